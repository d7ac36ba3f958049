"""What holds over the whole program: [0.1], [0.3], [0.5], and what its parts tell of each other."""

import copy
import importlib
import itertools
import random
import unittest

from wavewires.alike import alike_paper, paper_stands, round_of
from wavewires.away import chain_stands, stepped, steps_of, worn
from wavewires.circuits import behind, is_plain, looks_in, side_by_side, turned_about, wires_of
from wavewires.forms import form_of, settled_sum, turn_between
from wavewires.later import put_off
from wavewires.reading import read, shown
from wavewires.ring import against, halved, mirrored, plus, times, turned
from wavewires.runs import branches, mark_shares, marks_told
from wavewires.shares import share_less, share_plus, share_times, size_of
from wavewires.shorten import shortened, slides_stand
from wavewires.slides import lets_by, slid, slides_of
from wavewires.states import all_done, bits_of, column, done, inner, whole
from wavewires.sums import added, number_at, sum_of
from wavewires.tableruns import table_branches
from wavewires.tables import look_told, settled, sure_of, table_done, table_looked
from wavewires.tell import told_text
from wavewires.words import carried, word_done

from reckoning import all_bits, any_circuit, even_rows, repeating_circuit

O = (0, 0, 0, 0, 0)
# All names that the interface tells, module by module.
INTERFACE = {
    "errors": "WaveError HasLooks UnlikeWires TooGreat NoStep OddTurn Barred NoPaper StillHidden BadRow",
    "ring": "number plus times against turned mirrored halved turn_of",
    "shares": "share share_plus share_times share_less size_of",
    "states": "place_of bits_of beginning done all_done whole inner column",
    "circuits": "is_plain looks_in wires_of turned_about behind side_by_side",
    "reading": "shown read",
    "runs": "branches mark_shares marks_told",
    "sums": "value_of added sum_of number_at",
    "away": "steps_of stepped worn chain_stands",
    "words": "word_times agree is_straight word_done carried",
    "tables": "table_of table_done look_told sure_of table_looked settled",
    "tableruns": "table_branches",
    "forms": "form_of settled_sum turn_between",
    "alike": "alike_paper paper_stands round_of",
    "slides": "lets_by slides_of slid",
    "shorten": "shortened slides_stand",
    "later": "put_off",
    "tell": "told_text"}


class ThreeWays(unittest.TestCase):
    def check_sum(self, circuit, place, one):
        """The numbers of a sum are those of the run."""
        found = dict(branches(circuit, place))
        for marks in all_bits(one[0][1]):
            numbers = tuple(number_at(one, place, marks, end) for end in range(2 ** circuit[0]))
            self.assertEqual(numbers, found.get(marks, (O,) * 2 ** circuit[0]))

    def check_tables(self, circuit, place):
        """The marks, shares and states of the run are those of the run by tables."""
        told = table_branches(circuit, place)
        self.assertEqual([(marks, (1, 0, opened)) for marks, table, opened in told], mark_shares(circuit, place))
        for (marks, table, opened), (same, state) in zip(told, branches(circuit, place)):
            for word in settled(table) + tuple(keeper for helper, keeper in table):
                self.assertEqual(word_done(state, word), state)

    def test_runs_sums_and_tables_without_odd_turns(self):
        chance = random.Random(1)
        for turn in range(40):
            wires = chance.randint(1, 3)
            circuit = any_circuit(chance, wires, chance.choice((6, 15, 40)), chance.randint(0, 3), even_rows(wires))
            last = worn(sum_of(circuit))[1]
            self.assertEqual(last[5], ())
            form = settled_sum(last)
            for place in chance.sample(range(2 ** wires), 2):
                self.check_sum(circuit, place, last)
                self.check_tables(circuit, place)
                self.check_settled(circuit, place, form)

    def check_settled(self, circuit, place, form):
        # The form's pairs tell turns only where all their bits are 1.
        (wires, looks), halves, turn, pairs, ties = form
        found = dict(branches(circuit, place))
        for marks, end in itertools.product(all_bits(looks), range(2 ** wires)):
            bits = (1,) + bits_of(wires, place) + bits_of(wires, end) + marks
            e = sum(e for taken, e in pairs if all(bits[bit] for bit in taken))
            x = turned(number_at(((wires, looks), halves, turn, (), ties, ()), place, marks, end), e)
            self.assertEqual(x, found[marks][end] if marks in found else O)

    def test_runs_and_sums_with_odd_turns(self):
        chance = random.Random(2)
        for turn in range(40):
            wires = chance.randint(1, 3)
            circuit = any_circuit(chance, wires, chance.choice((6, 12)), chance.randint(0, 3))
            one = sum_of(circuit)
            for each in (one, worn(one)[1]):
                if len(each[5]) <= 8:
                    self.check_sum(circuit, chance.randrange(2 ** wires), each)

    def test_six_wires(self):
        chance = random.Random(3)
        for looks in (0, 3, 6):
            circuit = any_circuit(chance, 6, 60, looks, even_rows(6))
            place = chance.randrange(64)
            self.check_tables(circuit, place)
            last = worn(sum_of(circuit))[1]
            found = branches(circuit, place)
            for marks, state in found[:2]:
                self.assertEqual(tuple(number_at(last, place, marks, end) for end in range(64)), state)

    def test_shares_come_to_one(self):
        chance = random.Random(4)
        for turn in range(30):
            wires = chance.randint(1, 4)
            circuit = any_circuit(chance, wires, 20, chance.randint(0, 6))
            total = (0, 0, 0)
            for marks, share in mark_shares(circuit, chance.randrange(2 ** wires)):
                total = share_plus(total, share)
            self.assertEqual(total, (1, 0, 0))


class ThereAndBack(unittest.TestCase):
    def test_a_circuit_with_itself_turned_about_behind_it_is_alike_to_no_rows(self):
        chance = random.Random(5)
        for wires, many in ((1, 1), (1, 30), (2, 12), (3, 30), (4, 8), (6, 30)):
            for rows in (None, even_rows(wires)):
                half = any_circuit(chance, wires, many, 0, rows)
                nothing = (wires, ())
                for there in (behind(half, turned_about(half)), behind(turned_about(half), half)):
                    self.assertEqual(alike_paper(there, nothing), ("alike", 0))
                    self.assertIs(paper_stands(nothing, there, ("alike", 0)), True)
                    self.assertEqual(round_of(there, 1), 1)
                    self.assertEqual(alike_paper(shortened(there)[1], nothing), ("alike", 0))
                    if rows:
                        self.assertEqual(turn_between(there, nothing), 0)

    def test_short_circuits_are_alike_to_the_first_ones(self):
        chance = random.Random(6)
        for turn in range(30):
            wires = chance.randint(1, 4)
            circuit = repeating_circuit(chance, wires, chance.choice((10, 40, 60)))
            short = shortened(circuit)[1]
            self.assertEqual(alike_paper(circuit, short), ("alike", 0))
            even = repeating_circuit(chance, wires, 30, 0, even_rows(wires))
            self.assertEqual(turn_between(even, shortened(even)[1]), 0)


class SideBySide(unittest.TestCase):
    def check_both(self, one, other, place, beside):
        both = side_by_side(one, other)
        at = place * 2 ** other[0] + beside
        pairs = list(itertools.product(branches(one, place), branches(other, beside)))
        due = [(s[0] + t[0], tuple(times(x, y) for x in s[1] for y in t[1])) for s, t in pairs]
        self.assertEqual(branches(both, at), due)
        shares = list(itertools.product(mark_shares(one, place), mark_shares(other, beside)))
        self.assertEqual(mark_shares(both, at), [(s[0] + t[0], share_times(s[1], t[1])) for s, t in shares])
        self.assertEqual(marks_told(both, at), marks_told(one, place) + marks_told(other, beside))

    def test_any(self):
        chance = random.Random(7)
        for turn in range(40):
            wires, more = chance.choice(((1, 1), (1, 2), (2, 1), (2, 2), (1, 3), (3, 2)))
            one = any_circuit(chance, wires, 8, chance.randint(0, 2))
            other = any_circuit(chance, more, 8, chance.randint(0, 2))
            self.check_both(one, other, chance.randrange(2 ** wires), chance.randrange(2 ** more))

    def test_at_the_bounds(self):
        chance = random.Random(8)
        for wires in (1, 3, 5):
            one, other = any_circuit(chance, wires, 30, 3), any_circuit(chance, 6 - wires, 30, 3)
            self.check_both(one, other, 1, 1)
            self.check_both((wires, ()), (6 - wires, ()), 0, 1)

    def test_put_off_side_by_side(self):
        chance = random.Random(9)
        for turn in range(10):
            one, other = any_circuit(chance, 1, 6, 1), any_circuit(chance, 1, 6, 1)
            both = side_by_side(put_off(one), put_off(other))
            self.assertEqual(mark_shares(both), mark_shares(side_by_side(one, other)))


def asks():
    """Asks of all parts of the program, each with what is handed in."""
    chance = random.Random(10)
    looks, bent = any_circuit(chance, 2, 14, 2), any_circuit(chance, 2, 9)
    even, other = any_circuit(chance, 2, 12, 2, even_rows(2)), any_circuit(chance, 2, 9, 0, even_rows(2))
    one, state = sum_of(even), column(bent, 1)
    table = table_branches(even)[0][1]
    steps, last = worn(one)
    chain, short = shortened(looks)
    swung = (1, (("swing", 0), ("flip", 0), ("swing", 0)))
    of_circuits = (branches, mark_shares, marks_told, sum_of, shown, is_plain, looks_in, shortened, slides_of)
    told = [(ask, (circuit,)) for ask in of_circuits for circuit in (looks, bent, even)]
    told += [(ask, (state[0],)) for ask in (against, halved, mirrored, size_of)]
    told += [(ask, state[:2]) for ask in (plus, times)] + [(share_less, ((1, 0, 1), (0, 1, 2)))]
    told += [(done, (state, ("swing", 1))), (all_done, (state, bent[1])), (whole, (state,)), (inner, (state, state))]
    told += [(turned_about, (bent,)), (behind, (looks, bent)), (side_by_side, (looks, bent))]
    told += [(read, (shown(looks),)), (added, (0, one[3], 6, 3)), (steps_of, (one,)), (stepped, (one, steps[0]))]
    told += [(worn, (one,)), (chain_stands, (one, steps, last)), (word_done, (state, (1, 2, 3)))]
    told += [(carried, (2, (1, 2, 3), ("swing", 0))), (table_branches, (even, 3)), (table_done, (table, ("swing", 0)))]
    told += [(look_told, (table, 0)), (settled, (table,)), (form_of, (one[3],)), (settled_sum, (last,))]
    told += [(turn_between, (other, other)), (alike_paper, (bent, other)), (round_of, (other, 9))]
    told += [(slid, (swung, ("swung", 0, 1, 2))), (slides_stand, (looks, chain, short)), (put_off, (looks,))]
    told += [(lets_by, (("look", 0), ("turn", 0, 1), 0)), (told_text, (shown(looks),)), (wires_of, (even[1][0],))]
    return told + [(sure_of, (((((1, 0, 0), (0, 1, 2))),), 0)), (table_looked, (((((0, 1, 0), (1, 0, 0))),), 0, 1))]


def lists_in(told):
    if not isinstance(told, (list, tuple)):
        return []
    return [told] * isinstance(told, list) + [found for part in told for found in lists_in(part)]


def spoil(told):
    """Whatever can be changed in what was told is changed."""
    for found in lists_in(told):
        found[:] = [None]


class AskersOwn(unittest.TestCase):
    def test_whatever_is_done_in_between_the_same_is_told(self):
        first = [copy.deepcopy(ask(*handed)) for ask, handed in asks()]
        everything = list(enumerate(asks()))
        random.Random(11).shuffle(everything)
        for k, (ask, handed) in everything + everything[::-1]:
            kept = copy.deepcopy(handed)
            told = ask(*handed)
            self.assertEqual(told, first[k], ask)
            self.assertEqual(handed, kept, ask)
            spoil(told)
            self.assertEqual(handed, kept, ask)

    def test_no_two_lists_are_the_same_one(self):
        everything = asks()
        told = [ask(*handed) for ask, handed in everything]
        found = lists_in(told)[1:] + [each for ask, handed in everything for each in lists_in(handed)]
        once = {id(each) for each in found}
        self.assertGreater(len(found), 10)
        # The lists of steps are handed in as they were told, each of them once.
        self.assertEqual(len(once), len(found))

    def test_all_names_are_there(self):
        for module, names in INTERFACE.items():
            there = importlib.import_module("wavewires." + module)
            for name in names.split():
                self.assertEqual(getattr(there, name).__module__, "wavewires." + module)


if __name__ == "__main__":
    unittest.main()
