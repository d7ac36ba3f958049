"""[9.3] to [9.5] The form of turns, settled sums, the turn between two circuits."""

import itertools
import random
import unittest

from wavewires import forms
from wavewires.away import worn
from wavewires.circuits import behind, turned_about
from wavewires.errors import HasLooks, OddTurn, StillHidden, UnlikeWires
from wavewires.forms import form_of, settled_sum, turn_between
from wavewires.sums import sum_of

from reckoning import (
    any_circuit, any_set, any_sum, bits_in, check_arguments, check_told_alike, even_rows, model_turn, odd, product,
    settings_of, turn_parts, ways_number)

EVEN = (2, 4, 6)


def rest_of(turns, setting):
    return sum(e * odd(bitset, setting) for bitset, e in turns) % 8


def form_rest(form, setting):
    return sum(e for bits, e in form if set(bits) <= setting) % 8


def some_of(bits):
    return [frozenset(taken) for k in range(len(bits) + 1) for taken in itertools.combinations(bits, k)]


def model_form(turns):
    """The form, bits by bits: what the rests of less bits don't make up for."""
    bits = sorted(set().union(*(bits_in(bitset) for bitset, e in turns)))
    found = {}
    for taken in some_of(bits)[1:]:
        ahead = sum(e for less, e in found.items() if less < taken)
        found[taken] = (rest_of(turns, taken) - ahead) % 8
    return tuple(sorted((tuple(sorted(taken)), e) for taken, e in found.items() if e))


def form_is_formed(form):
    if type(form) is not tuple or any(type(pair) is not tuple or len(pair) != 2 for pair in form):
        return False
    ints = [e for bits, e in form] + [bit for bits, e in form for bit in bits]
    if any(type(bits) is not tuple for bits, e in form) or any(type(part) is not int for part in ints):
        return False
    every = [bits for bits, e in form]
    rising = list(form) == sorted(form) and len(set(every)) == len(every)
    fair = all(list(bits) == sorted(set(bits)) and 1 <= len(bits) <= 3 for bits in every)
    return rising and fair and all(1 <= e <= 7 for bits, e in form)


def settled_number(one, begin, marks, end):
    """The number of a settled sum as four fractions: that of the sum without turns, and the form's turns."""
    shape, halves, turn, form, ties = one
    plain = ways_number((shape, halves, turn, (), ties, ()), begin, marks, end)
    setting = {k + 1 for k, bit in enumerate(begin + end + marks) if bit}
    return product(plain, turn_parts(form_rest(form, setting)))


def numbers_of(one):
    return tuple(ways_number(one, *setting) for setting in settings_of(one))


class Forms(unittest.TestCase):
    def test_told_ones(self):
        told = (
            ((), ()), (((2, 1),), (((1,), 1),)), (((2, 7),), (((1,), 7),)), (((1 << 299, 5),), (((299,), 5),)),
            (((6, 1),), (((1,), 1), ((1, 2), 6), ((2,), 1))), (((6, 2),), (((1,), 2), ((1, 2), 4), ((2,), 2))),
            (((6, 4),), (((1,), 4), ((2,), 4))), (((6, 3),), (((1,), 3), ((1, 2), 2), ((2,), 3))),
            # Two bits signed: four times both.
            (((2, 2), (4, 2), (6, 6)), (((1, 2), 4),)), (((2, 7), (4, 7), (6, 1)), (((1, 2), 6),)),
            (((14, 1),), (
                ((1,), 1), ((1, 2), 6), ((1, 2, 3), 4), ((1, 3), 6), ((2,), 1), ((2, 3), 6), ((3,), 1))),
            (((14, 2),), (((1,), 2), ((1, 2), 4), ((1, 3), 4), ((2,), 2), ((2, 3), 4), ((3,), 2))),
            (((14, 4),), (((1,), 4), ((2,), 4), ((3,), 4))),
            # Three bits: four times all three.
            (((2, 1), (4, 1), (6, 7), (8, 1), (10, 7), (12, 7), (14, 1)), (((1, 2, 3), 4),)),
            (((2, 4), (8, 4), (10, 4)), ()), (((6, 1), (8, 2), (10, 3)), (
                ((1,), 4), ((1, 2), 6), ((1, 3), 2), ((2,), 1), ((3,), 5))))
        for turns, due in told:
            self.assertEqual(form_of(turns), due, turns)
            self.assertEqual(model_form(turns), due, turns)

    def any_turns(self, chance, bits, most, es=range(1, 8)):
        return tuple(sorted({any_set(chance, bits): chance.choice(es) for k in range(most)}.items()))

    def test_any(self):
        chance = random.Random(1)
        for turn in range(150):
            bits = chance.sample(range(1, chance.choice((8, 300))), chance.randint(1, 6))
            turns = self.any_turns(chance, bits, chance.choice((1, 2, 4, 20)), chance.choice((range(1, 8), EVEN, (4,))))
            form = form_of(turns)
            self.assertTrue(form_is_formed(form), form)
            self.assertEqual(form, model_form(turns))
            for setting in some_of(bits):
                self.assertEqual(rest_of(turns, setting), form_rest(form, setting))

    def test_all_turns_of_two_bits(self):
        # Turns have one form, and other rests have other forms.
        by_form = {}
        for es in itertools.product(range(8), repeat=3):
            turns = tuple((bitset, e) for bitset, e in zip((2, 4, 6), es) if e)
            rests = [rest_of(turns, setting) for setting in some_of((1, 2))]
            self.assertEqual(by_form.setdefault(form_of(turns), rests), rests)
        self.assertEqual(len(by_form), len(set(map(tuple, by_form.values()))))

    def test_great_ones(self):
        chance = random.Random(2)
        for es in (range(1, 8), EVEN):
            one = any_sum(chance, (6, 6), 60, 400, 0, es)
            form = form_of(one[3])
            self.assertTrue(form_is_formed(form))
            bits = list(range(1, 19)) + list(one[5])
            for turn in range(12):
                setting = {bit for bit in bits if chance.random() < chance.choice((0.05, 0.5, 0.9))}
                self.assertEqual(rest_of(one[3], setting), form_rest(form, setting))
            self.assertEqual(all(len(key) < 3 for key, e in form), es == EVEN)

    def test_of_circuits(self):
        chance = random.Random(3)
        for turn in range(20):
            wires = chance.randint(1, 2)
            one = worn(sum_of(any_circuit(chance, wires, 12)))[1]
            self.assertEqual(form_of(one[3]), model_form(one[3]))


class Settled(unittest.TestCase):
    def check_settled(self, one, settings=None):
        told = settled_sum(one)
        numbers = [ways_number(one, *setting) for setting in settings or settings_of(one)]
        if told is None:
            self.assertEqual(set(numbers), {(0, 0, 0, 0)})
            return told
        self.assertEqual((type(told), len(told), told[:2]), (tuple, 5, one[:2]))
        shape, halves, turn, form, ties = told
        self.assertTrue(form_is_formed(form), form)
        self.assertEqual((type(turn), type(ties), {type(tie) for tie in ties} | {int}), (int, tuple, {int}))
        self.assertTrue(0 <= turn <= 7 and list(ties) == sorted(set(ties)) and all(ties))
        tops = [tie.bit_length() - 1 for tie in ties]
        for top, tie in zip(tops, ties):
            self.assertEqual([other for other in ties if top in bits_in(other)], [tie])
            self.assertFalse([bits for bits, e in form if top in bits])
        self.assertTrue(max([0] + tops) <= 2 * shape[0] + shape[1])
        self.assertEqual([settled_number(told, *setting) for setting in settings or settings_of(one)], numbers)
        return told

    def test_told_ones(self):
        told = (
            (((1, 0), 0, 0, (), (), ()), ((1, 0), 0, 0, (), ())),
            (((1, 1), -3, 5, (), (), ()), ((1, 1), -3, 5, (), ())),
            (((1, 0), 1, 0, ((2, 1),), (), ()), ((1, 0), 1, 0, (((1,), 1),), ())),
            (((1, 0), 0, 0, (), (6,), ()), ((1, 0), 0, 0, (), (6,))),
            # The end's bit is the beginning's: what is told of the one is told of the other.
            (((1, 0), 0, 0, ((4, 1),), (6,), ()), ((1, 0), 0, 0, (((1,), 1),), (6,))),
            (((1, 0), 0, 0, ((6, 1),), (6,), ()), ((1, 0), 0, 0, (), (6,))),
            # The end's bit is the other one: turns by what the beginning is not.
            (((1, 0), 0, 0, ((4, 1),), (7,), ()), ((1, 0), 0, 1, (((1,), 7),), (7,))),
            (((1, 0), 0, 7, ((6, 3),), (7,), ()), ((1, 0), 0, 2, (), (7,))),
            (((1, 0), 0, 0, (), (2, 6), ()), ((1, 0), 0, 0, (), (2, 4))),
            (((1, 0), 0, 0, ((2, 1), (4, 1), (6, 1)), (2, 6), ()), ((1, 0), 0, 0, (), (2, 4))),
            (((1, 0), 0, 0, (), (3, 6), ()), ((1, 0), 0, 0, (), (3, 5))),
            (((1, 0), 0, 0, (), (3, 4, 7), ()), ((1, 0), 0, 0, (), (3, 4))),
            (((1, 0), 0, 0, (), (1,), ()), None), (((1, 0), 0, 3, ((2, 1),), (2, 3), ()), None),
            (((1, 0), 0, 0, (), (2, 4, 7), ()), None), (((1, 0), 0, 0, (), (3, 4, 6), ()), None))
        for one, due in told:
            self.assertEqual(settled_sum(one), due, one)
            self.check_settled(one)

    def test_any(self):
        chance = random.Random(4)
        found = []
        for turn in range(150):
            shape = (chance.randint(1, 2), chance.randint(0, 2))
            one = any_sum(chance, shape, 0, chance.choice((0, 2, 9)), chance.choice((0, 1, 2, 4)))
            found.append(self.check_settled(one))
        self.assertIn(None, found)

    def test_great_ones(self):
        chance = random.Random(5)
        for ties in (0, 3, 9, 80):
            one = any_sum(chance, (6, 6), 0, 400, ties)
            self.check_settled(one, [self.any_setting(chance) for k in range(20)])

    def any_setting(self, chance):
        return tuple(tuple(chance.randrange(2) for k in range(6)) for part in range(3))

    def test_numbers_kept_where_the_ties_hold(self):
        # With many ties few settings are not nought: these are made by the ties themselves.
        chance = random.Random(6)
        for turn in range(20):
            begin, marks, end = self.any_setting(chance)
            told = {0} | {k + 1 for k, bit in enumerate(begin + end + marks) if bit}
            one = any_sum(chance, (6, 6), 0, 60, 12)
            ties = sorted({tie ^ odd(tie, told) for tie in one[4]} - {0})
            one = one[:4] + (tuple(ties), ())
            self.assertTrue(any(ways_number(one, begin, marks, end)))
            self.check_settled(one, [(begin, marks, end)])

    def all_small(self, chance):
        """Sums over one wire, with few ties and turns."""
        for ties in itertools.combinations(range(1, 8), chance.randint(0, 2)):
            turns = tuple((s, chance.choice((1, 2, 4, 6))) for s in (2, 4, 6) if chance.random() < 0.5)
            yield ((1, 0), chance.choice((0, 0, 1)), chance.choice((0, 0, 4)), turns, ties, ())

    def test_settled_alike_just_where_all_numbers_are_the_same(self):
        chance = random.Random(7)
        by_numbers, by_shape = {}, {}
        for turn in range(60):
            for one in self.all_small(chance):
                told, numbers = settled_sum(one), numbers_of(one)
                self.assertEqual(by_numbers.setdefault(numbers, told), told, one)
                self.assertEqual(by_shape.setdefault(told, numbers), numbers, one)
        self.assertGreater(len(by_shape), 100)

    def test_ties_put_together_otherwise(self):
        chance = random.Random(8)
        for turn in range(60):
            one = any_sum(chance, (2, 1), 0, 6, 3)
            ties = set(one[4])
            for k in range(4):
                first, second = chance.choice(sorted(ties)), chance.choice(sorted(ties))
                if first != second:
                    ties = (ties - {first}) | {first ^ second}
            other = one[:4] + (tuple(sorted(ties)), ())
            self.assertEqual(numbers_of(one), numbers_of(other))
            self.assertEqual(settled_sum(one), settled_sum(other))

    def test_hidden_bits(self):
        for one in (
                ((1, 0), 0, 0, (), (), (3,)), ((1, 0), 0, 0, (), (1,), (3,)), sum_of((1, (("swing", 0),))),
                ((1, 0), 0, 0, ((8, 1),), (), (3, 299)), ((1, 0), 0, 0, (), (2, 3), (5,))):
            with self.assertRaises(StillHidden) as taken:
                settled_sum(one)
            self.assertIs(type(taken.exception), StillHidden)

    def test_worn_down_sums_of_circuits_with_looks(self):
        chance = random.Random(9)
        for turn in range(25):
            wires = chance.randint(1, 2)
            circuit = any_circuit(chance, wires, chance.choice((6, 20, 60)), chance.randint(0, 3), even_rows(wires))
            self.assertIsNotNone(self.check_settled(worn(sum_of(circuit))[1]))


class Between(unittest.TestCase):
    def refused(self, error, one, other):
        with self.assertRaises(error) as taken:
            turn_between(one, other)
        self.assertIs(type(taken.exception), error)

    def test_told_ones(self):
        spun = (("turn", 0, 2), ("flip", 0), ("turn", 0, 2), ("flip", 0))
        told = (
            ((1, ()), (1, ()), 0), ((1, ()), (1, (("flip", 0),)), None), ((1, ()), (1, spun), 2),
            ((1, spun), (1, ()), 6),
            ((1, ()), (1, spun + spun), 4), ((1, spun), (1, spun * 2), 2), ((1, (("swing", 0),) * 2), (1, ()), 0),
            ((1, (("swing", 0), ("flip", 0), ("swing", 0))), (1, (("turn", 0, 4),)), 0),
            ((1, (("swing", 0), ("turn", 0, 2)) * 3), (1, ()), 7),
            ((1, ()), (1, (("swing", 0), ("turn", 0, 2)) * 3), 1),
            ((1, (("flip", 0), ("turn", 0, 4))), (1, (("turn", 0, 4), ("flip", 0))), 4),
            ((2, (("tie", 0, 1), ("tie", 1, 0), ("tie", 0, 1))), (2, (("cross", 1, 0),)), 0),
            ((2, (("swing", 1), ("tie", 0, 1), ("swing", 1))), (2, (("sign", 1, 0),)), 0),
            ((2, (("tie", 0, 1),)), (2, (("tie", 1, 0),)), None),
            ((1, (("turn", 0, 2),)), (1, (("turn", 0, 6),)), None),
            ((1, (("swing", 0),)), (1, ()), None), ((6, ()), (6, ()), 0))
        for one, other, due in told:
            self.assertEqual(turn_between(one, other), due, (one, other))
            self.assertEqual(model_turn(one, other), due, (one, other))

    def check_between(self, one, other):
        told = turn_between(one, other)
        self.assertEqual(told, model_turn(one, other))
        return told

    def test_any(self):
        chance = random.Random(10)
        found = []
        for turn in range(100):
            wires = chance.choice((1, 1, 2, 3))
            one = any_circuit(chance, wires, chance.randint(1, 5), 0, even_rows(wires))
            other = any_circuit(chance, wires, chance.randint(1, 5), 0, even_rows(wires))
            found.append(self.check_between(one, other))
            self.check_between(one, one)
        self.assertIn(None, found)

    def test_alike_ones(self):
        # What is there and back again is put between the rows, and turns of all wires at once.
        chance = random.Random(11)
        found = []
        for turn in range(60):
            wires = chance.randint(1, 3)
            one = any_circuit(chance, wires, 10, 0, even_rows(wires))
            there = any_circuit(chance, wires, 6, 0, even_rows(wires))
            spun = (("turn", 0, 2), ("flip", 0)) * (2 * chance.randint(0, 3))
            spun += (("swing", 0), ("turn", 0, 2)) * chance.choice((0, 3))
            rows = list(one[1])
            at = chance.randint(0, 10)
            rows[at:at] = there[1] + spun + turned_about(there)[1]
            e = self.check_between(one, (wires, tuple(rows)))
            found.append(e)
            self.assertEqual(turn_between((wires, tuple(rows)), one), -e % 8)
        self.assertEqual(set(found), set(range(8)))

    def test_at_the_bounds(self):
        chance = random.Random(12)
        for wires in (1, 6):
            one = any_circuit(chance, wires, 60, 0, even_rows(wires))
            self.assertEqual(turn_between(one, one), 0)
            half = (wires, one[1][:30])
            self.assertEqual(turn_between(behind(half, turned_about(half)), (wires, ())), 0)
            less = (wires, one[1][:54])
            for at in (0, 20, 54):
                spun = less[1][:at] + (("swing", 0), ("turn", 0, 2)) * 3 + less[1][at:]
                self.assertEqual(turn_between(less, (wires, spun)), 1)
                self.assertEqual(turn_between((wires, spun), less), 7)
                flipped = less[1][:at] + (("flip", wires - 1),) + less[1][at:]
                self.assertIsNone(turn_between(less, (wires, flipped)))

    def test_each_e_is_of_the_settled_sums(self):
        chance = random.Random(13)
        for turn in range(40):
            one = any_circuit(chance, 1, 4, 0, even_rows(1))
            other = any_circuit(chance, 1, 4, 0, even_rows(1))
            first, second = [settled_sum(worn(sum_of(each))[1]) for each in (one, other)]
            e = turn_between(one, other)
            same = first[:2] + first[3:] == second[:2] + second[3:]
            self.assertEqual(e, (second[2] - first[2]) % 8 if same else None)

    def test_refusals_and_their_order(self):
        plain, looks, bent = (1, (("swing", 0),)), (1, (("look", 0),)), (1, (("turn", 0, 3),))
        wide, wide_looks = (2, (("swing", 0),)), (2, (("look", 0), ("turn", 0, 1)))
        wide_bent = (2, (("turn", 1, 1),))
        told = (
            (HasLooks, looks, plain), (HasLooks, plain, looks), (HasLooks, looks, looks), (HasLooks, looks, wide),
            (HasLooks, wide_looks, plain), (HasLooks, plain, wide_looks), (HasLooks, looks, bent),
            (HasLooks, wide_bent, looks),
            (HasLooks, wide_looks, bent), (UnlikeWires, plain, wide), (UnlikeWires, wide, plain),
            (UnlikeWires, bent, wide),
            (UnlikeWires, bent, wide_bent), (OddTurn, bent, plain), (OddTurn, plain, bent), (OddTurn, bent, bent),
            (OddTurn, wide_bent, wide), (OddTurn, (1, (("turn", 0, 2), ("turn", 0, 7))), plain))
        for error, one, other in told:
            self.refused(error, one, other)
        for e in (1, 3, 5, 7):
            self.refused(OddTurn, (1, (("turn", 0, e),)), (1, (("turn", 0, e),)))


class Telling(unittest.TestCase):
    def test_what_was_handed_in_stays_and_the_same_is_told_alike(self):
        chance = random.Random(14)
        one = any_sum(chance, (2, 1), 0, 6, 2)
        circuit = any_circuit(chance, 2, 10, 0, even_rows(2))
        check_told_alike(self, [(form_of, (one[3],)), (settled_sum, (one,)), (turn_between, (circuit, circuit))])

    def test_arguments_are_those_of_the_interface(self):
        check_arguments(self, forms, ((form_of, "(turns)"), (settled_sum, "(one)"), (turn_between, "(one, other)")))


if __name__ == "__main__":
    unittest.main()
