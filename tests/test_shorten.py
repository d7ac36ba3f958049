"""[10.3] Chains of steps, and the short circuits to which they lead."""

import random
import unittest

from wavewires import shorten
from wavewires.circuits import behind, turned_about
from wavewires.runs import branches
from wavewires.shorten import shortened, slides_stand
from wavewires.slides import slid, slides_of

from reckoning import MANY, any_circuit, check_arguments, check_told_alike, repeating_circuit

S, F, T = ("swing", 0), ("flip", 0), ("turn", 0, 1)


class Shortened(unittest.TestCase):
    def check_shortened(self, circuit, places=()):
        told = shortened(circuit)
        self.assertEqual((type(told), len(told), type(told[0])), (tuple, 2, list))
        steps, short = told
        self.assertEqual({type(step) for step in steps} | {tuple}, {tuple})
        self.assertEqual((type(short), type(short[1]), short[0]), (tuple, tuple, circuit[0]))
        at = circuit
        for step in steps:
            self.assertIn(step, slides_of(at))
            at = slid(at, step)
        self.assertEqual(at, short)
        self.assertEqual(slides_of(short), [])
        self.assertIs(slides_stand(circuit, steps, short), True)
        for place in places:
            self.assertEqual(branches(short, place), branches(circuit, place))
        return told

    def test_told_ones(self):
        self.assertEqual(shortened((1, ())), ([], (1, ())))
        self.assertEqual(shortened((1, (S, T, S))), ([], (1, (S, T, S))))
        self.assertEqual(shortened((2, (("look", 0), ("look", 0)))), ([], (2, (("look", 0), ("look", 0)))))
        self.assertEqual(shortened((1, (S, S))), ([("gone", 0, 1)], (1, ())))
        self.assertEqual(shortened((1, (S, F, S))), ([("swung", 0, 1, 2)], (1, (("turn", 0, 4),))))
        told = (
            ((S,) * 60, ()), ((F,) * 59, (F,)), ((T,) * 8, ()), ((T,) * 60, (("turn", 0, 4),)),
            ((T, F, S, S, F, T), (("turn", 0, 2),)),
            ((S, ("turn", 0, 4), S, F), ()), ((S, T, ("turn", 0, 3), S), (F,)),
            ((S, ("tie", 1, 0), S, ("sign", 0, 1)), ()),
            ((("cross", 0, 1), ("tie", 0, 1), ("look", 0), ("tie", 0, 1), ("cross", 1, 0)), (
                ("cross", 0, 1), ("look", 0), ("cross", 1, 0))))
        for rows, due in told:
            self.assertEqual(self.check_shortened((2, rows), range(4))[1], (2, due))

    def test_any(self):
        chance = random.Random(1)
        lengths = []
        for turn in range(60):
            wires = chance.randint(1, 3)
            circuit = repeating_circuit(chance, wires, chance.choice((5, 12, 30)), chance.randint(0, 3))
            steps, short = self.check_shortened(circuit, range(2 ** wires))
            lengths.append(len(steps))
            self.check_shortened(any_circuit(chance, wires, 15, chance.randint(0, 3)), range(2 ** wires))
        self.assertGreater(max(lengths), 8)
        self.assertEqual(min(lengths), 0)

    def test_sixty_rows(self):
        chance = random.Random(2)
        for wires, looks in ((1, 0), (1, 6), (6, 0), (6, 6)):
            self.check_shortened(any_circuit(chance, wires, 60, looks), (0,))
            self.check_shortened(repeating_circuit(chance, wires, 60, looks), (0,))

    def test_there_and_back_again_nothing_is_left(self):
        chance = random.Random(3)
        for wires in (1, 2, 4, 6):
            half = any_circuit(chance, wires, 30)
            there = behind(half, turned_about(half))
            # From the middle on each row meets the one that undoes it.
            steps, at = [], there
            while at[1]:
                p = len(at[1]) // 2 - 1
                steps.append(("joined" if at[1][p][0] == "turn" else "gone", p, p + 1))
                at = slid(at, steps[-1])
            self.assertEqual(len(steps), 30)
            self.assertIs(slides_stand(there, steps, (wires, ())), True)
            self.check_shortened(there, (0,))


class Stands(unittest.TestCase):
    def test_told_ones(self):
        circuit = (2, (S, F, S, T, T, ("look", 1)))
        swung = (2, (("turn", 0, 4), T, T, ("look", 1)))
        both = (2, (("turn", 0, 4), ("turn", 0, 2), ("look", 1)))
        last = (2, (("turn", 0, 6), ("look", 1)))
        told = (
            ([], circuit, True), ([], swung, False), ([("swung", 0, 1, 2)], swung, True),
            ([("swung", 0, 1, 2)], circuit, False),
            ([("swung", 0, 1, 2), ("joined", 1, 2)], both, True), ([("joined", 3, 4), ("swung", 0, 1, 2)], both, True),
            ([("joined", 1, 2), ("swung", 0, 1, 2)], both, False),
            ([("swung", 0, 1, 2), ("joined", 3, 4)], both, False),
            ([("swung", 0, 1, 2), ("joined", 1, 2), ("joined", 0, 1)], last, True),
            ([("swung", 0, 1, 2), ("joined", 0, 1), ("joined", 0, 1)], last, True),
            ([("swung", 0, 1, 2), ("joined", 0, 1), ("joined", 0, 1)], (3, last[1]), False),
            ([("swung", 0, 1, 2), ("joined", 0, 1), ("joined", 0, 1), ("joined", 0, 1)], last, False),
            ([("gone", 0, 2)], swung, False), ([("gone", 0, 0)], circuit, False),
            ([("gone", -1, MANY)], circuit, False),
            ([("joined", MANY, -MANY)], circuit, False), ([("swung", -6, -5, -4)], swung, False),
            ([("gone", 0, 1), ("swung", 0, 1, 2)], swung, False))
        for steps, due, stands in told:
            self.assertIs(slides_stand(circuit, steps, due), stands, steps)

    def test_chains_picked_by_chance(self):
        chance = random.Random(4)
        for turn in range(60):
            circuit = repeating_circuit(chance, chance.randint(1, 3), 20, chance.randint(0, 2))
            at, steps = circuit, []
            while slides_of(at):
                steps.append(chance.choice(slides_of(at)))
                at = slid(at, steps[-1])
                self.assertIs(slides_stand(circuit, steps, at), True)
            for place in range(2 ** circuit[0]):
                self.assertEqual(branches(at, place), branches(circuit, place))
            if steps:
                self.assertIs(slides_stand(circuit, steps[:-1], at), False)
                self.assertIs(slides_stand(circuit, steps + steps[-1:], at), False)
                self.assertIs(slides_stand(circuit, steps, (at[0] + 1, at[1])), False)
                self.assertIs(slides_stand(circuit, steps, circuit), False)


class Telling(unittest.TestCase):
    def test_what_was_handed_in_stays_and_the_same_is_told_alike(self):
        circuit = (2, (S, F, S, T, T))
        steps, short = shortened(circuit)
        asks = (
            (shortened, (circuit,)), (slides_stand, (circuit, steps, short)),
            (slides_stand, (circuit, [("gone", 0, 1)], short)))
        check_told_alike(self, asks)

    def test_a_list_that_was_told_and_changed_changes_nothing_later(self):
        for circuit in ((1, (S, S)), (1, ())):
            told = shortened(circuit)[0]
            kept = list(told)
            self.assertIsNot(shortened(circuit)[0], told)
            told.append(None)
            told[0] = 5
            self.assertEqual(shortened(circuit)[0], kept)

    def test_arguments_are_those_of_the_interface(self):
        check_arguments(self, shorten, ((shortened, "(circuit)"), (slides_stand, "(circuit, steps, last)")))


if __name__ == "__main__":
    unittest.main()
