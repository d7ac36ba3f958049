"""[8.1] to [8.5] Tables: those of places, behind rows and looks, sure and open looks, settled keepers."""

import itertools
import random
import unittest

from wavewires import tables
from wavewires.errors import Barred, NoPaper, OddTurn
from wavewires.ring import plus
from wavewires.states import beginning, done
from wavewires.tables import look_told, settled, sure_of, table_done, table_looked, table_of
from wavewires.words import carried, word_done, word_times

from reckoning import (
    all_bits, any_table, any_word, check_arguments, check_told_alike, even_rows, is_table, plain_rows, with_bit)

O = (0, 0, 0, 0, 0)
# Two wires that are both at once, but always alike.
PAIR = (((0, 1, 0), (3, 0, 0)), ((1, 0, 0), (0, 3, 0)))


def state_of(table):
    """A state to which a table belongs: a place's, with what each keeper makes of it added to it."""
    for place in range(2 ** len(table)):
        state = beginning(len(table), place)
        for helper, keeper in table:
            state = tuple(plus(x, y) for x, y in zip(state, word_done(state, keeper)))
        if any(x != O for x in state):
            return state


def left(state, wire, mark):
    """What a look leaves of a state, or None where that is nought everywhere."""
    bits = all_bits(len(state).bit_length() - 1)
    told = tuple(x if row[wire] == mark else O for row, x in zip(bits, state))
    return told if any(x != O for x in told) else None


def products_of(words):
    """All products of words that agree, by which of them are in it."""
    told = {(): (0, 0, 0)}
    for k, word in enumerate(words):
        told.update({taken + (k,): word_times(product, word) for taken, product in list(told.items())})
    return told


def one_wire_tables():
    words = list(itertools.product((0, 1), (0, 1), range(4)))
    return [((helper, keeper),) for helper in words for keeper in words if is_table(((helper, keeper),), 1)]


def some_tables(seed, many, most=6):
    chance = random.Random(seed)
    told = one_wire_tables()
    for turn in range(many):
        told.append(any_table(chance, chance.randint(2, most)))
    return told


class TableCase(unittest.TestCase):
    def check_belongs(self, table, state):
        self.assertTrue(is_table(table, len(table)), table)
        self.assertTrue(any(x != O for x in state))
        for helper, keeper in table:
            self.assertEqual(word_done(state, keeper), state)

    def check_refused(self, error, ask, *handed):
        with self.assertRaises(error, msg=handed) as taken:
            ask(*handed)
        self.assertIs(type(taken.exception), error)


class Made(TableCase):
    def test_any_table_is_one(self):
        self.assertEqual(len(one_wire_tables()), 48)
        for table in some_tables(1, 30):
            self.check_belongs(table, state_of(table))

    def test_told_ones(self):
        told = (
            (1, 0, (((1, 0, 0), (0, 1, 0)),)), (1, 1, (((1, 0, 0), (0, 1, 2)),)),
            (2, 1, (((2, 0, 0), (0, 2, 0)), ((1, 0, 0), (0, 1, 2)))),
            (2, 2, (((2, 0, 0), (0, 2, 2)), ((1, 0, 0), (0, 1, 0)))),
            (3, 5, (((4, 0, 0), (0, 4, 2)), ((2, 0, 0), (0, 2, 0)), ((1, 0, 0), (0, 1, 2)))))
        for wires, place, due in told:
            self.assertEqual(table_of(wires, place), due)

    def test_each_place(self):
        for wires in range(1, 7):
            units = [with_bit((0,) * wires, wire, 1) for wire in range(wires)]
            worths = [all_bits(wires).index(unit) for unit in units]
            for place, bits in enumerate(all_bits(wires)):
                table = table_of(wires, place)
                due = tuple(((worth, 0, 0), (0, worth, 2 if bit else 0)) for worth, bit in zip(worths, bits))
                self.assertEqual(table, due)
                self.check_belongs(table, beginning(wires, place))

    def test_place_left_out_is_nought(self):
        for wires in (1, 3, 6):
            self.assertEqual(table_of(wires), table_of(wires, 0))
            self.assertEqual(table_of(wires=wires, place=1), table_of(wires, 1))


class Done(TableCase):
    def test_told_ones(self):
        told = (
            (table_of(1), ("swing", 0), (((0, 1, 0), (1, 0, 0)),)),
            (table_of(1, 1), ("swing", 0), (((0, 1, 0), (1, 0, 2)),)),
            (table_of(1), ("flip", 0), (((1, 0, 0), (0, 1, 2)),)),
            (table_of(1), ("turn", 0, 2), (((1, 1, 1), (0, 1, 0)),)),
            (table_of(1), ("turn", 0, 6), (((1, 1, 3), (0, 1, 0)),)),
            (table_of(1), ("turn", 0, 4), (((1, 0, 2), (0, 1, 0)),)),
            (table_of(2), ("tie", 0, 1), (((3, 0, 0), (0, 2, 0)), ((1, 0, 0), (0, 3, 0)))),
            (table_of(2), ("sign", 0, 1), (((2, 1, 0), (0, 2, 0)), ((1, 2, 0), (0, 1, 0)))),
            (table_of(2, 2), ("cross", 0, 1), (((1, 0, 0), (0, 1, 2)), ((2, 0, 0), (0, 2, 0)))))
        for table, row, due in told:
            self.assertEqual(table_done(table, row), due, row)

    def test_each_row(self):
        for table in some_tables(2, 40, 4):
            wires = len(table)
            state = state_of(table)
            for row in even_rows(wires):
                told = table_done(table, row)
                words = tuple((carried(wires, helper, row), carried(wires, keeper, row)) for helper, keeper in table)
                self.assertEqual(told, words)
                self.check_belongs(told, done(state, row))

    def test_sixty_rows(self):
        chance = random.Random(3)
        for wires in (1, 5, 6):
            table, state = table_of(wires, 1), beginning(wires, 1)
            for turn in range(60):
                row = chance.choice(even_rows(wires))
                table, state = table_done(table, row), done(state, row)
                self.check_belongs(table, state)

    def test_odd_turns(self):
        for table in some_tables(4, 20):
            for row in [row for row in plain_rows(len(table)) if row[0] == "turn" and row[2] % 2 == 1]:
                self.check_refused(OddTurn, table_done, table, row)

    def test_odd_turns_where_no_word_stands_against_them(self):
        for words in ((0, 1, 0), (0, 0, 0)):
            for e in (1, 3, 5, 7):
                self.check_refused(OddTurn, table_done, ((words, words),), ("turn", 0, e))


class Looks(TableCase):
    def test_told_ones(self):
        swung = table_done(table_of(2), ("swing", 0))
        told = (
            (table_of(1), 0, 0, [0]), (table_of(1, 1), 0, 1, [0]), (table_of(2, 2), 0, 1, [0]),
            (table_of(2, 2), 1, 0, [1]),
            (swung, 0, None, None), (swung, 1, 0, [1]), (PAIR, 0, None, None), (PAIR, 1, None, None),
            # Wire 1's keeper signs both wires: to look at wire 1 both keepers are asked.
            (table_done(table_of(2, 2), ("tie", 0, 1)), 1, 1, [0, 1]),
            (table_done(table_of(2, 3), ("tie", 0, 1)), 1, 0, [0, 1]),
            (table_done(table_of(2, 3), ("tie", 0, 1)), 0, 1, [0]),
            (table_done(table_of(2, 3), ("tie", 1, 0)), 0, 0, [0, 1]),
            # A keeper that is none of the looks' words, with a turn of its own.
            ((((0, 1, 0), (1, 1, 1)),), 0, None, None), ((((0, 1, 0), (1, 1, 3)),), 0, None, None),
            ((((1, 1, 3), (0, 1, 2)),), 0, 1, [0]), ((((1, 1, 0), (0, 1, 0)),), 0, 0, [0]))
        for table, wire, mark, keepers in told:
            self.assertEqual(look_told(table, wire), mark, table)
            if keepers is None:
                self.check_refused(NoPaper, sure_of, table, wire)
            else:
                self.assertEqual(sure_of(table, wire), keepers, table)

    def check_look(self, table, wire):
        marks = [mark for mark in (0, 1) if left(state_of(table), wire, mark)]
        told = look_told(table, wire)
        if len(marks) == 2:
            self.assertIsNone(told)
            self.check_refused(NoPaper, sure_of, table, wire)
            return "open"
        self.assertEqual((told, type(told)), (marks[0], int))
        keepers = sure_of(table, wire)
        self.assertIs(type(keepers), list)
        self.assertEqual({type(keeper) for keeper in keepers}, {int})
        word = (0, 1 << (len(table) - 1 - wire), 2 * marks[0])
        found = [list(taken) for taken, product in products_of([k for h, k in table]).items() if product == word]
        self.assertEqual(found, [keepers])
        return "sure"

    def test_any(self):
        found = []
        for table in some_tables(5, 150):
            found += [self.check_look(table, wire) for wire in range(len(table))]
        self.assertGreater(min(found.count("open"), found.count("sure")), 50)

    def test_many_sure_ones(self):
        # Ties alone leave all looks sure, of many keepers.
        chance = random.Random(6)
        for wires in (2, 4, 6):
            table = table_of(wires, chance.randrange(2 ** wires))
            ties = [row for row in plain_rows(wires) if row[0] in ("tie", "flip", "sign")]
            for turn in range(30):
                table = table_done(table, chance.choice(ties))
            self.assertEqual({self.check_look(table, wire) for wire in range(wires)}, {"sure"})


class Looked(TableCase):
    def check_looked(self, table, wire):
        state = state_of(table)
        told = look_told(table, wire)
        for mark in (0, 1):
            if told is None:
                behind = table_looked(table, wire, mark)
                word = (0, 1 << (len(table) - 1 - wire), 2 * mark)
                self.assertIn(word, [keeper for helper, keeper in behind])
                self.assertEqual(look_told(behind, wire), mark)
                self.check_belongs(behind, left(state, wire, mark))
            elif told == mark:
                self.assertEqual(table_looked(table, wire, mark), table)
            else:
                self.check_refused(Barred, table_looked, table, wire, mark)

    def test_told_ones(self):
        self.assertEqual(table_looked(table_of(2, 1), 1, 1), table_of(2, 1))
        self.assertEqual(table_looked(table_of(2, 1), 0, 0), table_of(2, 1))
        self.check_refused(Barred, table_looked, table_of(2, 1), 1, 0)
        self.check_refused(Barred, table_looked, table_of(2, 1), 0, 1)
        for wire in (0, 1):
            for mark in (0, 1):
                both = table_looked(PAIR, wire, mark)
                self.assertEqual([look_told(both, other) for other in (0, 1)], [mark, mark])
                self.assertEqual(settled(both), ((0, 2, 2 * mark), (0, 1, 2 * mark)))

    def test_any(self):
        for table in some_tables(7, 100):
            for wire in range(len(table)):
                self.check_looked(table, wire)

    def test_looks_between_rows(self):
        chance = random.Random(8)
        for wires in (1, 2, 3, 6):
            table = table_of(wires)
            for turn in range(40):
                wire = chance.randrange(wires)
                if turn % 3:
                    table = table_done(table, chance.choice([("swing", wire), chance.choice(even_rows(wires))]))
                else:
                    self.check_looked(table, wire)
                    mark = look_told(table, wire)
                    table = table_looked(table, wire, chance.choice((0, 1)) if mark is None else mark)


class Settled(TableCase):
    def check_settled(self, table):
        wires = len(table)
        told = settled(table)
        self.assertEqual((type(told), len(told), {type(word) for word in told}), (tuple, wires, {tuple}))
        self.assertEqual({type(part) for word in told for part in word}, {int})
        values = [x * 2 ** wires + z for x, z, s in told]
        self.assertEqual(values, sorted(set(values), reverse=True))
        for value in values:
            top = 1 << (value.bit_length() - 1)
            self.assertEqual([other for other in values if other & top], [value])
        keepers = [keeper for helper, keeper in table]
        self.assertEqual(set(products_of(told).values()), set(products_of(keepers).values()))
        return told

    def scrambled(self, chance, table):
        """Another table that belongs to the same states: keepers multiplied by each other, in another order."""
        keepers = [keeper for helper, keeper in table]
        helpers = [helper for helper, keeper in table]
        for turn in range(3 * len(table)):
            i, j = chance.sample(range(len(table)), 2)
            keepers[i] = word_times(keepers[i], keepers[j])
            helpers[j] = word_times(helpers[j], helpers[i])
            helpers[i] = word_times(helpers[i], keepers[chance.randrange(len(table))])
        pairs = list(zip(helpers, keepers))
        chance.shuffle(pairs)
        return tuple(pairs)

    def test_told_ones(self):
        told = (
            (table_of(1), ((0, 1, 0),)), (table_of(1, 1), ((0, 1, 2),)), (table_of(2, 1), ((0, 2, 0), (0, 1, 2))),
            (PAIR, ((3, 0, 0), (0, 3, 0))), ((PAIR[1], PAIR[0]), ((3, 0, 0), (0, 3, 0))),
            (table_done(PAIR, ("turn", 0, 4)), ((3, 0, 2), (0, 3, 0))),
            ((((0, 1, 0), (3, 3, 2)), ((1, 1, 3), (0, 3, 0))), ((3, 0, 2), (0, 3, 0))),
            (table_done(table_of(2, 2), ("tie", 0, 1)), ((0, 2, 2), (0, 1, 2))),
            (table_done(table_of(2, 2), ("swing", 1)), ((1, 0, 0), (0, 2, 2))),
            (table_done(table_done(table_of(2), ("swing", 0)), ("turn", 0, 2)), ((2, 2, 1), (0, 1, 0))))
        for table, due in told:
            self.assertTrue(is_table(table, len(table)), table)
            self.assertEqual(settled(table), due)
            self.check_settled(table)

    def test_any(self):
        chance = random.Random(9)
        for table in some_tables(10, 100):
            told = self.check_settled(table)
            if len(table) > 1:
                other = self.scrambled(chance, table)
                self.check_belongs(other, state_of(table))
                self.assertEqual(settled(other), told)

    def test_other_states_have_other_keepers(self):
        # All tables over 1 wire belong to 6 kinds of states, those over 2 wires to 60.
        self.assertEqual(len({settled(table) for table in one_wire_tables()}), 6)
        chance = random.Random(11)
        found = {}
        for turn in range(1500):
            table = any_table(chance, 2)
            state = state_of(table)
            shape = settled(table)
            self.assertIn(found.setdefault(shape, state), [word_done(state, (0, 0, s)) for s in range(4)] + [state])
        self.assertEqual(len(found), 60)

    def test_behind_a_look_they_are_those_of_what_is_left(self):
        for table in some_tables(12, 60):
            for wire in range(len(table)):
                if look_told(table, wire) is None:
                    state = left(state_of(table), wire, 1)
                    for word in settled(table_looked(table, wire, 1)):
                        self.assertEqual(word_done(state, word), state)


class Telling(TableCase):
    def test_what_was_handed_in_stays_and_the_same_is_told_alike(self):
        table = any_table(random.Random(13), 3)
        asks = [(table_of, (3, 5)), (table_done, (table, ("swing", 1))), (settled, (table,))]
        asks += [(sure_of, (table_of(3, 5), 2))]
        asks += [(look_told, (table, wire)) for wire in range(3)] + [(table_looked, (PAIR, 0, 1))]
        check_told_alike(self, asks)

    def test_a_list_that_was_told_and_changed_changes_nothing_later(self):
        table = table_done(table_of(2), ("tie", 0, 1))
        told = sure_of(table, 1)
        self.assertIsNot(sure_of(table, 1), told)
        told.append(5)
        told[0] = None
        self.assertEqual(sure_of(table, 1), [0, 1])

    def test_arguments_are_those_of_the_interface(self):
        told = (
            (table_of, "(wires, place=0)"), (table_done, "(table, row)"), (look_told, "(table, wire)"),
            (sure_of, "(table, wire)"), (table_looked, "(table, wire, mark)"), (settled, "(table)"))
        check_arguments(self, tables, told)


if __name__ == "__main__":
    unittest.main()
