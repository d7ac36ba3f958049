"""[0.6], [3.1], [3.2] Circuits: what they are, turned about, behind one another, side by side."""

import random
import unittest

from wavewires import circuits
from wavewires.circuits import behind, is_plain, looks_in, side_by_side, turned_about, wires_of
from wavewires.errors import HasLooks, TooGreat, UnlikeWires
from wavewires.ring import times
from wavewires.runs import branches
from wavewires.states import all_done, column

from reckoning import any_circuit, any_state, check_arguments, check_told_alike, plain_rows

LOOK = ("look", 0)
FLIP = ("flip", 0)


def stands(circuit):
    """Whether it is a circuit as [0.6] tells it."""
    wires, rows = circuit
    known = plain_rows(wires)
    looks = 0
    for row in rows:
        if row[0] == "look":
            if len(row) != 2 or row[1] not in range(wires):
                return False
            looks += 1
        elif row[0] == "where":
            if len(row) != 3 or row[1] not in range(looks) or row[2] not in known:
                return False
            if row[2][0] != "flip" and (row[2][0] != "turn" or row[2][2] != 4):
                return False
        elif row not in known:
            return False
    return type(circuit) is tuple and type(rows) is tuple and 1 <= wires <= 6 and len(rows) <= 60 and looks <= 6


class CircuitCase(unittest.TestCase):
    def check_refused(self, refusal, ask, *handed):
        with self.assertRaises(refusal) as taken:
            ask(*handed)
        self.assertIs(type(taken.exception), refusal)


class Plain(CircuitCase):
    def test_told_ones(self):
        told = (
            ((1, ()), True, 0), ((1, (FLIP,)), True, 0), ((1, (LOOK,)), False, 1), ((2, (FLIP, LOOK, FLIP)), False, 1),
            ((2, (LOOK, ("where", 0, ("flip", 1)))), False, 1), ((6, (("look", 5),) * 6), False, 6),
            ((2, (LOOK, LOOK, ("where", 1, ("turn", 1, 4)))), False, 2))
        for circuit, plain, looks in told:
            self.assertIs(is_plain(circuit), plain, circuit)
            self.assertEqual(looks_in(circuit), looks)
            self.assertIs(type(looks_in(circuit)), int)

    def test_each_plain_row(self):
        for wires in (1, 2, 6):
            self.assertIs(is_plain((wires, tuple(plain_rows(wires)))), True)
            self.assertEqual(looks_in((wires, tuple(plain_rows(wires)))), 0)
            for row in plain_rows(wires):
                self.assertIs(is_plain((wires, (row,))), True)
                self.assertIs(is_plain((wires, (row, LOOK))), False)
                self.assertIs(is_plain((wires, (LOOK, row))), False)


class WiresOfRows(CircuitCase):
    def test_told_ones(self):
        told = (
            (("swing", 3), (3,)), (("turn", 2, 5), (2,)), (("turn", 5, 2), (5,)), (("flip", 0), (0,)), (("look", 4), (4,)),
            (("tie", 1, 4), (1, 4)), (("tie", 4, 1), (1, 4)), (("sign", 5, 0), (0, 5)), (("sign", 0, 5), (0, 5)),
            (("cross", 3, 2), (2, 3)), (("cross", 2, 3), (2, 3)), (("where", 5, ("flip", 1)), (1,)),
            (("where", 0, ("turn", 3, 4)), (3,)))
        for row, wires in told:
            self.assertEqual(wires_of(row), wires, row)
            self.assertIs(type(wires_of(row)), tuple)

    def test_each_plain_row(self):
        for row in plain_rows(6):
            wires = row[1:2] if row[0] == "turn" else row[1:]
            self.assertEqual(wires_of(row), tuple(sorted(wires)))


class TurnedAbout(CircuitCase):
    def test_told_ones(self):
        self.assertEqual(turned_about((1, ())), (1, ()))
        rows = (("swing", 0), ("turn", 1, 1), ("tie", 0, 1), ("turn", 0, 4), ("sign", 1, 0), ("cross", 0, 1), ("flip", 1))
        back = (("flip", 1), ("cross", 0, 1), ("sign", 1, 0), ("turn", 0, 4), ("tie", 0, 1), ("turn", 1, 7), ("swing", 0))
        self.assertEqual(turned_about((2, rows)), (2, back))
        for e in range(1, 8):
            self.assertEqual(turned_about((3, (("turn", 2, e),))), (3, (("turn", 2, 8 - e),)))

    def test_leads_every_state_back(self):
        chance = random.Random(1)
        for wires, many in ((1, 10), (2, 30), (3, 60), (6, 12)):
            circuit = any_circuit(chance, wires, many)
            about = turned_about(circuit)
            self.assertTrue(stands(about))
            self.assertEqual(turned_about(about), circuit)
            state = any_state(chance, wires)
            self.assertTrue(all_done(all_done(state, circuit[1]), about[1]) == state)
            self.assertTrue(all_done(all_done(state, about[1]), circuit[1]) == state)

    def test_looks_are_refused(self):
        for rows in ((LOOK,), (FLIP, LOOK), (LOOK, FLIP), (LOOK, ("where", 0, FLIP))):
            self.check_refused(HasLooks, turned_about, (1, rows))


class Behind(CircuitCase):
    def test_told_ones(self):
        self.assertEqual(behind((2, ()), (2, ())), (2, ()))
        self.assertEqual(behind((1, (FLIP,)), (1, (("swing", 0),))), (1, (FLIP, ("swing", 0))))
        one = (2, (LOOK, ("where", 0, ("flip", 1)), ("look", 1)))
        other = (2, (("turn", 1, 3), LOOK, ("where", 0, ("turn", 1, 4)), ("look", 1), ("where", 1, ("flip", 0))))
        self.assertEqual(behind(one, other), (2, one[1] + (
            ("turn", 1, 3), LOOK, ("where", 2, ("turn", 1, 4)), ("look", 1), ("where", 3, ("flip", 0)))))
        self.assertEqual(behind((2, (FLIP,)), other), (2, (FLIP,) + other[1]))
        self.assertEqual(behind(one, (2, (FLIP,))), (2, one[1] + (FLIP,)))

    def test_does_the_one_and_then_the_other(self):
        chance = random.Random(2)
        for wires in (1, 2, 3):
            one, other = any_circuit(chance, wires, 20), any_circuit(chance, wires, 9)
            both = behind(one, other)
            self.assertTrue(stands(both))
            for place in range(2 ** wires):
                self.assertEqual(column(both, place), all_done(column(one, place), other[1]))

    def test_with_looks(self):
        chance = random.Random(3)
        for turn in range(10):
            one, other = any_circuit(chance, 2, 8, 2), any_circuit(chance, 2, 9, 3)
            both = behind(one, other)
            self.assertTrue(stands(both))
            self.assertEqual(both[1][:8], one[1])
            self.assertEqual(looks_in(both), 5)
            whole_run = dict(branches(both))
            for marks, state in branches(one):
                for further in range(8):
                    marks_behind = tuple(further >> k & 1 for k in (2, 1, 0))
                    self.assertEqual(
                        whole_run.get(marks + marks_behind, ((0,) * 5,) * 4), gone_through(other, state, marks_behind))

    def test_unlike_wires(self):
        self.check_refused(UnlikeWires, behind, (1, ()), (2, ()))
        self.check_refused(UnlikeWires, behind, (6, (FLIP,)), (5, (FLIP,)))
        # Also too many rows, and too many looks: unlike wires are told first.
        self.check_refused(UnlikeWires, behind, (1, (FLIP,) * 60), (2, (FLIP,) * 60))
        self.check_refused(UnlikeWires, behind, (1, (LOOK,) * 6), (2, (LOOK,)))

    def test_bounds(self):
        for first in (0, 1, 30, 59, 60):
            told = behind((1, (FLIP,) * first), (1, (("swing", 0),) * (60 - first)))
            self.assertEqual(told, (1, (FLIP,) * first + (("swing", 0),) * (60 - first)))
            self.check_refused(TooGreat, behind, (1, (FLIP,) * first), (1, (FLIP,) * (61 - first)))
        for first in range(7):
            self.assertEqual(looks_in(behind((1, (LOOK,) * first), (1, (LOOK,) * (6 - first)))), 6)
            if first:
                self.check_refused(TooGreat, behind, (1, (LOOK,) * first), (1, (LOOK,) * (7 - first)))
        self.check_refused(TooGreat, behind, (6, (FLIP,) * 60), (6, (FLIP,) * 60))
        self.assertEqual(behind((6, (FLIP,) * 60), (6, ())), (6, (FLIP,) * 60))


def gone_through(circuit, state, marks):
    """What is left of a state behind a circuit of two wires, at a row of marks."""
    ahead = 0
    for row in circuit[1]:
        if row[0] == "look":
            bit = (2, 1)[row[1]]
            state = tuple(x if (p & bit > 0) == marks[ahead] else (0,) * 5 for p, x in enumerate(state))
            ahead += 1
        elif row[0] != "where":
            state = all_done(state, (row,))
        elif marks[row[1]]:
            state = all_done(state, (row[2],))
    return state


class SideBySide(CircuitCase):
    def test_told_ones(self):
        self.assertEqual(side_by_side((1, ()), (1, ())), (2, ()))
        rows = (
            ("swing", 0), ("turn", 1, 3), ("flip", 1), ("tie", 0, 1), ("sign", 1, 0), ("cross", 1, 0), ("look", 1),
            ("where", 0, ("flip", 0)), ("where", 0, ("turn", 1, 4)))
        on = (
            ("swing", 3), ("turn", 4, 3), ("flip", 4), ("tie", 3, 4), ("sign", 4, 3), ("cross", 4, 3), ("look", 4),
            ("where", 2, ("flip", 3)), ("where", 2, ("turn", 4, 4)))
        ahead = (("look", 2), ("look", 0), ("where", 1, ("flip", 2)))
        self.assertEqual(side_by_side((3, ahead), (2, rows)), (5, ahead + on))
        self.assertEqual(side_by_side((2, rows), (1, (LOOK, ("where", 0, FLIP)))), (
            3, rows + (("look", 2), ("where", 1, ("flip", 2)))))

    def test_each_goes_its_own_way(self):
        chance = random.Random(4)
        for few, many, looks in ((1, 1, 0), (1, 2, 1), (2, 1, 2), (2, 2, 3)):
            one, other = any_circuit(chance, few, 9, looks), any_circuit(chance, many, 12, looks)
            both = side_by_side(one, other)
            self.assertTrue(stands(both))
            for first in range(2 ** few):
                for second in range(2 ** many):
                    self.assertEqual(branches(both, first * 2 ** many + second), [
                        (ahead + further, tuple(times(x, y) for x in state for y in behind_it))
                        for ahead, state in branches(one, first) for further, behind_it in branches(other, second)])

    def test_bounds(self):
        for first in range(1, 6):
            self.assertEqual(side_by_side((first, ()), (6 - first, ())), (6, ()))
            self.check_refused(TooGreat, side_by_side, (first, ()), (7 - first, ()))
        self.check_refused(TooGreat, side_by_side, (6, ()), (6, ()))
        for first in (0, 1, 30, 59, 60):
            one = (1, (FLIP,) * first)
            self.assertEqual(side_by_side(one, (1, (FLIP,) * (60 - first))), (
                2, (FLIP,) * first + (("flip", 1),) * (60 - first)))
            self.check_refused(TooGreat, side_by_side, one, (1, (FLIP,) * (61 - first)))
        for first in range(7):
            self.assertEqual(looks_in(side_by_side((1, (LOOK,) * first), (1, (LOOK,) * (6 - first)))), 6)
            if first:
                self.check_refused(TooGreat, side_by_side, (1, (LOOK,) * first), (1, (LOOK,) * (7 - first)))


class Telling(CircuitCase):
    def test_what_was_handed_in_stays_and_the_same_is_told_alike(self):
        chance = random.Random(5)
        plain, one, other = any_circuit(chance, 3, 20), any_circuit(chance, 3, 20, 2), any_circuit(chance, 3, 20, 4)
        asks = [(is_plain, (one,)), (looks_in, (one,)), (turned_about, (plain,)), (behind, (one, other)),
                (side_by_side, (one, other)), (wires_of, (("tie", 2, 0),))]
        check_told_alike(self, asks)

    def test_arguments_are_those_of_the_interface(self):
        told = (
            (is_plain, "(circuit)"), (looks_in, "(circuit)"), (wires_of, "(row)"), (turned_about, "(circuit)"),
            (behind, "(one, other)"), (side_by_side, "(one, other)"))
        check_arguments(self, circuits, told)


if __name__ == "__main__":
    unittest.main()
