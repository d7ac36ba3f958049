"""[9.1], [9.2] and [9.6] Circuits alike or not, their papers and the judge; the round of a circuit."""

import itertools
import random
import unittest
from math import gcd

from wavewires import alike
from wavewires.alike import alike_paper, paper_stands, round_of
from wavewires.circuits import behind, turned_about
from wavewires.errors import HasLooks, UnlikeWires
from wavewires.forms import turn_between
from wavewires.states import beginning, column

from reckoning import (
    MANY, all_bits, any_circuit, check_arguments, check_told_alike, even_rows, model_columns, model_turn, plain_rows,
    product)

# By all wires at once: turned by 1, 2 and 4.
SPUN = {
    1: (("turn", 0, 1), ("flip", 0), ("turn", 0, 1), ("flip", 0)),
    2: (("turn", 0, 2), ("flip", 0), ("turn", 0, 2), ("flip", 0)),
    4: (("turn", 0, 4), ("flip", 0), ("turn", 0, 4), ("flip", 0))}
NONE = (0, 0, 0, 0)


def model_stands(one, other, paper):
    """Whether a paper is good, by the words of [9.1]."""
    if paper[0] == "alike":
        return 0 <= paper[1] <= 7 and model_turn(one, other) == paper[1]
    bits = all_bits(one[0])
    if not set(paper[1:]) <= set(range(len(bits))):
        return False
    f, g = model_columns(one), model_columns(other)
    b, p, c, q = paper[1:]
    first = product(f[b].get(bits[p], NONE), g[c].get(bits[q], NONE))
    second = product(f[c].get(bits[q], NONE), g[b].get(bits[p], NONE))
    return first != second


def some_pairs(seed, many, most=3):
    """Pairs of circuits: unlike, alike, alike but for one row or but for one turn."""
    chance = random.Random(seed)
    for turn in range(many):
        wires = chance.randint(1, most)
        one = any_circuit(chance, wires, chance.randint(1, 8))
        at = chance.randint(0, len(one[1]))
        there = any_circuit(chance, wires, 4)[1]
        back = turned_about((wires, there))[1]
        spun = SPUN[1] * chance.randint(0, 7)
        between = chance.choice(((), spun, (chance.choice(plain_rows(wires)),)))
        yield one, (wires, one[1][:at] + there + between + back + one[1][at:])
        yield one, any_circuit(chance, wires, chance.randint(1, 8))


class PaperCase(unittest.TestCase):
    def check_form(self, wires, paper):
        self.assertIs(type(paper), tuple)
        self.assertEqual({type(part) for part in paper[1:]}, {int})
        if paper[0] == "alike":
            self.assertTrue(len(paper) == 2 and 0 <= paper[1] <= 7)
        else:
            self.assertEqual((paper[0], len(paper)), ("unlike", 5))
            self.assertTrue(all(0 <= place < 2 ** wires for place in paper[1:]))

    def check_paper(self, one, other):
        paper = alike_paper(one, other)
        self.check_form(one[0], paper)
        e = model_turn(one, other)
        self.assertEqual(paper if paper[0] == "alike" else ("alike", None), ("alike", e))
        self.assertTrue(model_stands(one, other, paper))
        self.assertIs(paper_stands(one, other, paper), True)
        return paper

    def check_refused(self, error, ask, *handed):
        with self.assertRaises(error, msg=handed) as taken:
            ask(*handed)
        self.assertIs(type(taken.exception), error)


class Papers(PaperCase):
    def test_alike_told_ones(self):
        told = (
            ((1, ()), (1, ()), 0), ((1, (("swing", 0),) * 2), (1, ()), 0), ((1, ()), (1, SPUN[1]), 1),
            ((1, SPUN[1]), (1, ()), 7),
            ((3, SPUN[2]), (3, ()), 6), ((1, ()), (1, SPUN[4]), 4), ((1, ()), (1, SPUN[1] * 7), 7),
            ((1, SPUN[1]), (1, SPUN[4]), 3),
            ((1, (("turn", 0, 1), ("turn", 0, 3))), (1, (("turn", 0, 4),)), 0),
            ((1, (("swing", 0), ("turn", 0, 4), ("swing", 0))), (1, (("flip", 0),)), 0),
            ((1, (("flip", 0), ("turn", 0, 3))), (1, (("turn", 0, 5), ("flip", 0))), 5),
            ((2, (("swing", 1), ("tie", 0, 1), ("swing", 1))), (2, (("sign", 1, 0),)), 0),
            ((1, (("swing", 0), ("turn", 0, 2)) * 3), (1, ()), 7))
        for one, other, e in told:
            self.assertEqual(alike_paper(one, other), ("alike", e))
            self.check_paper(one, other)

    def test_unlike_told_ones(self):
        told = (
            ((1, ()), (1, (("flip", 0),))), ((1, (("flip", 0),)), (1, ())), ((1, ()), (1, (("swing", 0),))),
            # Each column is alike for itself, but by other turns.
            ((1, ()), (1, (("turn", 0, 1),))), ((1, (("turn", 0, 4),)), (1, ())),
            ((1, (("turn", 0, 3),)), (1, (("turn", 0, 5),))),
            # The last column alone tells them apart.
            ((2, ()), (2, (("sign", 0, 1),))), ((3, (("swing", 2), ("sign", 0, 1))), (3, (("swing", 2),))),
            # The numbers are those of the other one at other places.
            ((2, (("tie", 0, 1),)), (2, (("tie", 1, 0),))), ((2, (("flip", 0),)), (2, (("flip", 1),))),
            ((1, (("swing", 0), ("turn", 0, 4))), (1, (("turn", 0, 4), ("swing", 0)))))
        for one, other in told:
            self.assertEqual(self.check_paper(one, other)[0], "unlike")

    def test_any(self):
        found = []
        for one, other in some_pairs(1, 60):
            found.append(self.check_paper(one, other))
        self.assertLessEqual({("alike", e) for e in range(8)}, set(found))
        self.assertGreater(sum(paper[0] == "unlike" for paper in found), 40)

    def test_without_odd_turns_it_is_the_turn_between_them(self):
        chance = random.Random(2)
        for turn in range(80):
            wires = chance.randint(1, 2)
            one, other = [any_circuit(chance, wires, chance.randint(0, 4) + 1, 0, even_rows(wires)) for k in range(2)]
            e = turn_between(one, other)
            paper = alike_paper(one, other)
            self.assertEqual(paper if paper[0] == "alike" else ("alike", None), ("alike", e))

    def test_at_the_bounds(self):
        chance = random.Random(3)
        for wires in (1, 6):
            one, other = any_circuit(chance, wires, 60), any_circuit(chance, wires, 60)
            self.assertEqual(alike_paper(one, one), ("alike", 0))
            paper = alike_paper(one, other)
            self.check_form(wires, paper)
            self.assertEqual(paper[0], "unlike")
            self.assertIs(paper_stands(one, other, paper), True)
            for e in range(8):
                self.assertIs(paper_stands(one, other, ("alike", e)), False)
                self.assertIs(paper_stands(one, one, ("alike", e)), e == 0)
            less = (wires, one[1][:56])
            for at in (0, 25, 56):
                spun = (wires, less[1][:at] + SPUN[1] + less[1][at:])
                self.assertEqual(alike_paper(less, spun), ("alike", 1))
                self.assertEqual(alike_paper(spun, less), ("alike", 7))
                self.assertIs(paper_stands(less, spun, ("alike", 1)), True)
                bent = (wires, less[1][:at] + (("turn", wires - 1, 1),) + less[1][at:])
                paper = alike_paper(less, bent)
                self.assertEqual(paper[0], "unlike")
                self.assertIs(paper_stands(less, bent, paper), True)
            swings = (wires, (("swing", 0), ("turn", 0, 1), ("swing", 0)) * 20)
            self.assertEqual(alike_paper(swings, swings), ("alike", 0))
            half = (wires, swings[1][:30])
            self.assertEqual(alike_paper(behind(half, turned_about(half)), (wires, ())), ("alike", 0))

    def test_told_apart_by_the_last_columns_alone(self):
        two = (2, (("sign", 0, 1),))
        wide = (6, (("sign", 4, 5),))
        self.assertIs(paper_stands((2, ()), two, ("unlike", 0, 0, 3, 3)), True)
        self.assertIs(paper_stands((6, ()), wide, ("unlike", 0, 0, 63, 63)), True)
        self.assertIs(paper_stands((6, ()), wide, ("unlike", 0, 0, 62, 62)), False)
        paper = alike_paper((6, ()), wide)
        self.assertEqual(paper[0], "unlike")
        self.assertIs(paper_stands((6, ()), wide, paper), True)


class Judge(PaperCase):
    def test_told_ones(self):
        flipped = ((1, ()), (1, (("flip", 0),)))
        bent = ((1, ()), (1, (("turn", 0, 1),)))
        same = ((1, (("swing", 0),)), (1, (("swing", 0),) * 3))
        told = (
            (flipped, ("unlike", 0, 0, 0, 1), True), (flipped, ("unlike", 0, 1, 0, 0), True),
            (flipped, ("unlike", 0, 0, 1, 1), False),
            (flipped, ("unlike", 0, 0, 0, 0), False), (flipped, ("unlike", 1, 1, 1, 0), True),
            (flipped, ("alike", 0), False),
            (bent, ("unlike", 0, 0, 1, 1), True), (bent, ("unlike", 1, 1, 0, 0), True),
            (bent, ("unlike", 0, 1, 1, 0), False),
            (bent, ("alike", 0), False), (bent, ("alike", 1), False), (same, ("alike", 0), True),
            (same, ("alike", 4), False),
            (same, ("alike", 8), False), (same, ("alike", -8), False), (same, ("alike", MANY - MANY % 8), False),
            (flipped, ("unlike", 0, 0, 0, 2), False), (flipped, ("unlike", 0, 0, 0, -1), False),
            (flipped, ("unlike", 0, 0, -1, 1), False), (flipped, ("unlike", 2, 0, 0, 1), False),
            (flipped, ("unlike", 0, -2, 0, 1), False), (flipped, ("unlike", -2, 0, 0, 1), False),
            (flipped, ("unlike", 0, MANY, 0, 1), False), (flipped, ("unlike", 0, 0, -MANY, 1), False))
        for (one, other), paper, stands in told:
            self.assertIs(paper_stands(one, other, paper), stands, paper)

    def test_each_paper_over_one_wire(self):
        for one, other in some_pairs(4, 8, 1):
            for e in (-9, -8, -7, -1) + tuple(range(10)) + (15, 16, MANY, -MANY):
                self.assertIs(paper_stands(one, other, ("alike", e)), model_stands(one, other, ("alike", e)))
            for places in itertools.product(range(-1, 3), repeat=4):
                paper = ("unlike",) + places
                self.assertIs(paper_stands(one, other, paper), model_stands(one, other, paper))

    def test_any_paper(self):
        chance = random.Random(5)
        found = []
        for one, other in some_pairs(6, 30):
            for turn in range(6):
                paper = ("unlike",) + tuple(chance.randrange(2 ** one[0]) for k in range(4))
                found.append(paper_stands(one, other, paper))
                self.assertIs(found[-1], model_stands(one, other, paper))
            bad = list(paper)
            bad[chance.randint(1, 4)] = chance.choice((-1, -2 ** one[0], 2 ** one[0], MANY, -MANY))
            self.assertIs(paper_stands(one, other, tuple(bad)), False)
            e = model_turn(one, other)
            for turn in range(-1, 9):
                self.assertIs(paper_stands(one, other, ("alike", turn)), turn == e)
        self.assertEqual(set(found), {True, False})

    def test_alike_ones_have_no_unlike_paper(self):
        one = (1, (("swing", 0), ("turn", 0, 1), ("swing", 0)))
        other = (1, one[1] + SPUN[1])
        self.assertIs(paper_stands(one, other, ("alike", 1)), True)
        for places in itertools.product((0, 1), repeat=4):
            self.assertIs(paper_stands(one, other, ("unlike",) + places), False)

    def test_refusals_and_their_order(self):
        plain, looks, wide = (1, (("swing", 0),)), (1, (("look", 0), ("where", 0, ("flip", 0)))), (2, (("turn", 0, 1),))
        wide_looks = (2, (("look", 0),))
        told = (
            (HasLooks, looks, plain), (HasLooks, plain, looks), (HasLooks, looks, looks), (HasLooks, looks, wide),
            (HasLooks, wide, looks), (HasLooks, plain, wide_looks), (HasLooks, wide_looks, looks),
            (UnlikeWires, plain, wide),
            (UnlikeWires, wide, plain))
        for error, one, other in told:
            self.check_refused(error, alike_paper, one, other)
            for paper in (("alike", 0), ("alike", 9), ("alike", -1), ("unlike", 0, 0, 0, 1), ("unlike", 5, 5, -5, 5)):
                self.check_refused(error, paper_stands, one, other, paper)


def model_round(circuit, most):
    """The round by [9.6], by the columns of the circuit done again and again."""
    nothing = (circuit[0], ())
    for count in range(1, most + 1):
        if model_turn((circuit[0], circuit[1] * count), nothing) is not None:
            return count
    return None


class Rounds(PaperCase):
    def test_told_ones(self):
        cycle = tuple(("cross", k, k + 1) for k in range(5))
        told = (
            ((1, ()), 1), ((6, ()), 1), ((1, (("swing", 0),)), 2), ((1, (("flip", 0),)), 2), ((2, (("tie", 0, 1),)), 2),
            ((2, (("sign", 0, 1),)), 2), ((2, (("cross", 0, 1),)), 2), ((1, SPUN[1]), 1), ((3, SPUN[4]), 1),
            ((1, (("swing", 0), ("turn", 0, 2))), 3), ((1, (("flip", 0), ("turn", 0, 1))), 2),
            ((2, (("tie", 0, 1), ("cross", 0, 1))), 3),
            ((2, (("tie", 0, 1), ("tie", 1, 0))), 3), ((3, (("cross", 0, 1), ("cross", 1, 2))), 3), ((6, cycle), 6),
            ((3, (("tie", 0, 1), ("cross", 0, 1), ("cross", 1, 2))), 7), ((6, cycle + (("tie", 0, 1),)), 63),
            ((2, (("turn", 0, 1), ("cross", 0, 1))), 16), ((4, (("tie", 0, 1), ("tie", 1, 0), ("turn", 2, 1))), 24),
            ((4, (("tie", 0, 1), ("cross", 0, 1), ("cross", 1, 2), ("turn", 3, 1))), 56),
            ((6, (("tie", 0, 1), ("cross", 0, 1), ("cross", 1, 2), ("tie", 3, 4), ("tie", 4, 3), ("turn", 5, 2))), 84))
        for circuit, due in told:
            self.assertEqual(round_of(circuit, 100), due, circuit)
            self.assertIs(type(round_of(circuit, due)), int)
            self.assertEqual(round_of(circuit, due), due)
            self.assertIsNone(round_of(circuit, due - 1))
            self.assertIsNone(round_of(circuit, 0))

    def test_turns(self):
        for wires in (1, 6):
            for e in range(1, 8):
                self.assertEqual(round_of((wires, (("turn", wires - 1, e),)), 100), 8 // gcd(8, e))

    def test_no_round(self):
        bent = (("swing", 0), ("turn", 0, 1))
        twice = (("swing", 0), ("turn", 0, 3), ("swing", 0), ("turn", 0, 1))
        told = ((1, bent), (6, bent), (2, bent + (("tie", 0, 1),)), (1, twice))
        for circuit in told:
            for most in (0, 1, 50, 100):
                self.assertIsNone(round_of(circuit, most))

    def test_no_round_though_the_first_columns_come_back(self):
        # Only where wire 0 is 1 the two ties don't make up for each other.
        there = (("turn", 1, 1), ("swing", 1), ("turn", 1, 1), ("swing", 1), ("turn", 1, 1))
        circuit = (2, (("tie", 0, 1),) + there + (("tie", 0, 1),) + turned_about((2, there))[1])
        self.assertEqual([column(circuit, place) for place in (0, 1)], [beginning(2, place) for place in (0, 1)])
        self.assertIsNone(round_of(circuit, 100))
        self.assertIsNone(model_round(circuit, 6))

    def test_more_than_a_hundred(self):
        # Its parts come round after 7, 3 and 8 times.
        circuit = (6, (("tie", 0, 1), ("cross", 0, 1), ("cross", 1, 2), ("tie", 3, 4), ("tie", 4, 3), ("turn", 5, 1)))
        self.assertIsNone(round_of(circuit, 100))
        self.assertEqual(round_of(circuit, 168), 168)

    def test_any(self):
        chance = random.Random(7)
        found = []
        for turn in range(70):
            wires = chance.choice((1, 1, 2))
            circuit = any_circuit(chance, wires, chance.randint(1, 4), 0, chance.choice((None, even_rows(wires))))
            most = chance.choice((5, 8))
            found.append(round_of(circuit, most))
            self.assertEqual(found[-1], model_round(circuit, most), circuit)
        self.assertLessEqual({None, 1, 2, 3, 4, 8}, set(found) | {1})

    def test_there_and_back_round_it(self):
        # Done between a circuit and the same one turned about, a circuit keeps its round.
        chance = random.Random(8)
        inner = (
            ((("turn", 0, 1),), 8), ((("tie", 0, 1), ("cross", 0, 1)), 3), ((("turn", 0, 1), ("cross", 0, 1)), 16),
            ((("swing", 0), ("turn", 0, 2)), 3), (SPUN[1], 1))
        for wires, many in ((2, 20), (3, 12), (6, 28)):
            for rows, due in inner:
                there = any_circuit(chance, wires, many)
                circuit = (wires, there[1] + rows + turned_about(there)[1])
                self.assertEqual(round_of(circuit, 100), due)
                self.assertIsNone(round_of(circuit, due - 1))

    def test_sixty_rows(self):
        chance = random.Random(9)
        self.assertIsNone(round_of(any_circuit(chance, 6, 60), 100))
        half = any_circuit(chance, 6, 30)
        self.assertEqual(round_of(behind(half, turned_about(half)), 1), 1)

    def test_looks(self):
        for most in (0, 1, 100):
            for rows in ((("look", 0),), (("swing", 0), ("look", 0)), (("look", 0), ("where", 0, ("flip", 0)))):
                self.check_refused(HasLooks, round_of, (1, rows), most)


class Telling(PaperCase):
    def test_what_was_handed_in_stays_and_the_same_is_told_alike(self):
        chance = random.Random(10)
        one, other = any_circuit(chance, 2, 9), any_circuit(chance, 2, 9)
        paper = alike_paper(one, other)
        asks = (
            (alike_paper, (one, other)), (alike_paper, (one, one)), (paper_stands, (one, other, paper)),
            (paper_stands, (one, one, ("alike", 3))), (round_of, (one, 9)), (round_of, ((2, (("turn", 0, 3),)), 9)))
        check_told_alike(self, asks)

    def test_arguments_are_those_of_the_interface(self):
        told = ((alike_paper, "(one, other)"), (paper_stands, "(one, other, paper)"), (round_of, "(circuit, most)"))
        check_arguments(self, alike, told)


if __name__ == "__main__":
    unittest.main()
