"""[4.1] to [4.3] Runs: their branches, shares and marks."""

import random
import unittest

from wavewires import runs
from wavewires.runs import branches, mark_shares, marks_told
from wavewires.shares import share_less, share_plus
from wavewires.states import column, whole

from reckoning import all_bits, any_circuit, check_arguments, check_told_alike, is_least, model_branches, model_of

O = (0, 0, 0, 0, 0)
I = (1, 0, 0, 0, 0)
H = (1, 0, 0, 0, 1)
HALF = (1, 0, 1)
ONE = (1, 0, 0)

# Wire 0's bit is brought over to wire 2, by wires that are tied and two looks.
BROUGHT = (
    ("swing", 1), ("tie", 1, 2), ("tie", 0, 1), ("swing", 0), ("look", 0), ("look", 1), ("where", 1, ("flip", 2)),
    ("where", 0, ("turn", 2, 4)))


class RunCase(unittest.TestCase):
    def check_run(self, circuit, place):
        wires = circuit[0]
        told = branches(circuit, place)
        due = model_branches(circuit, all_bits(wires)[place])
        self.assertIs(type(told), list)
        self.assertEqual([marks for marks, state in told], [marks for marks, model in due])
        for (marks, state), (other, model) in zip(told, due):
            self.assertEqual((type(marks), type(state), len(state)), (tuple, tuple, 2 ** wires))
            self.assertLessEqual({type(bit) for bit in marks}, {int})
            self.assertEqual({(type(x), len(x)) for x in state}, {(tuple, 5)})
            self.assertTrue(all(is_least(x) for x in state))
            self.assertTrue(model_of(state) == model)
        self.check_shares(circuit, place, told)
        self.check_marks(circuit, place, told)
        return told

    def check_shares(self, circuit, place, told):
        shares = mark_shares(circuit, place)
        self.assertIs(type(shares), list)
        self.assertEqual({type(pair) for pair in shares}, {tuple})
        self.assertEqual(shares, [(marks, whole(state)) for marks, state in told])
        total = (0, 0, 0)
        for marks, part in shares:
            self.assertIs(share_less((0, 0, 0), part), True)
            total = share_plus(total, part)
        self.assertEqual(total, ONE)

    def check_marks(self, circuit, place, told):
        words = marks_told(circuit, place)
        self.assertIs(type(words), list)
        looks = sum(row[0] == "look" for row in circuit[1])
        seen = [{marks[m] for marks, state in told} for m in range(looks)]
        self.assertEqual(words, [{(1,): "sure", (0,): "barred", (0, 1): "open"}[tuple(sorted(bits))] for bits in seen])


class Branches(RunCase):
    def test_told_ones(self):
        told = (
            ((1, ()), 0, [((), (I, O))]), ((1, ()), 1, [((), (O, I))]), ((1, (("swing", 0),)), 0, [((), (H, H))]),
            ((1, (("look", 0),)), 0, [((0,), (I, O))]), ((1, (("look", 0),)), 1, [((1,), (O, I))]),
            ((1, (("swing", 0), ("look", 0))), 0, [((0,), (H, O)), ((1,), (O, H))]),
            ((1, (("swing", 0), ("look", 0))), 1, [((0,), (H, O)), ((1,), (O, (-1, 0, 0, 0, 1)))]),
            ((1, (("swing", 0), ("swing", 0), ("look", 0))), 0, [((0,), (I, O))]),
            ((1, (("swing", 0), ("look", 0), ("look", 0))), 0, [((0, 0), (H, O)), ((1, 1), (O, H))]),
            ((1, (("swing", 0), ("look", 0), ("where", 0, ("flip", 0)))), 0, [((0,), (H, O)), ((1,), (H, O))]),
            ((1, (("swing", 0), ("look", 0), ("where", 0, ("turn", 0, 4)))), 0, [
                ((0,), (H, O)), ((1,), (O, (-1, 0, 0, 0, 1)))]),
            ((2, (("swing", 0), ("tie", 0, 1), ("look", 1))), 0, [((0,), (H, O, O, O)), ((1,), (O, O, O, H))]),
            ((2, (("swing", 0), ("tie", 0, 1), ("look", 1), ("where", 0, ("flip", 0)), ("look", 0))), 0, [
                ((0, 0), (H, O, O, O)), ((1, 0), (O, H, O, O))]),
            ((1, (("swing", 0), ("look", 0), ("swing", 0), ("look", 0))), 0, [
                ((0, 0), ((1, 0, 0, 0, 2), O)), ((0, 1), (O, (1, 0, 0, 0, 2))), ((1, 0), ((1, 0, 0, 0, 2), O)),
                ((1, 1), (O, (-1, 0, 0, 0, 2)))]))
        for circuit, place, due in told:
            self.assertEqual(branches(circuit, place), due)
            self.check_run(circuit, place)

    def test_a_wire_is_brought_over(self):
        for ahead in ((), (("swing", 0), ("turn", 0, 1), ("swing", 0)), (("swing", 0), ("turn", 0, 3))):
            carried = column((1, ahead), 0)
            told = self.check_run((3, ahead + BROUGHT), 0)
            self.assertEqual([marks for marks, state in told], all_bits(2))
            for marks, state in told:
                at = 4 * marks[0] + 2 * marks[1]
                self.assertEqual([x[:4] for x in state[at:at + 2]], [x[:4] for x in carried])
                self.assertEqual(state[:at] + state[at + 2:], (O,) * 6)
            self.assertEqual(mark_shares((3, ahead + BROUGHT)), [(marks, (1, 0, 2)) for marks in all_bits(2)])

    def test_place_left_out_is_nought(self):
        chance = random.Random(1)
        for turn in range(10):
            circuit = any_circuit(chance, 2, 8, 2)
            for ask in (branches, mark_shares, marks_told):
                self.assertEqual(ask(circuit), ask(circuit, 0))
                self.assertEqual(ask(circuit=circuit, place=0), ask(circuit, 0))

    def test_without_looks(self):
        chance = random.Random(2)
        for wires, many in ((1, 3), (2, 60), (3, 12)):
            circuit = any_circuit(chance, wires, many)
            for place in range(2 ** wires):
                self.assertEqual(branches(circuit, place), [((), column(circuit, place))])
                self.assertEqual(mark_shares(circuit, place), [((), ONE)])
                self.assertEqual(marks_told(circuit, place), [])

    def test_any(self):
        chance = random.Random(3)
        for turn in range(60):
            wires = chance.randint(1, 4)
            many = chance.choice((6, 9, 14, 25))
            circuit = any_circuit(chance, wires, many, chance.randint(1, 3))
            for place in chance.sample(range(2 ** wires), 2):
                self.check_run(circuit, place)

    def test_many_looks(self):
        chance = random.Random(4)
        for wires in (1, 2, 3):
            self.check_run(any_circuit(chance, wires, 16, 6), chance.randrange(2 ** wires))

    def test_six_looks_all_open(self):
        rows = tuple((kind, wire) for wire in range(6) for kind in ("swing", "look"))
        told = self.check_run((6, rows), 21)
        self.assertEqual([marks for marks, state in told], all_bits(6))
        self.assertEqual(mark_shares((6, rows), 21), [(marks, (1, 0, 6)) for marks in all_bits(6)])
        self.assertEqual(marks_told((6, rows), 21), ["open"] * 6)

    def test_sixty_rows(self):
        rows = tuple(("swing", wire) for wire in range(6)) + tuple(("look", wire) for wire in range(6))
        rows += (("swing", 0), ("turn", 0, 1), ("swing", 1), ("tie", 0, 5), ("turn", 1, 3), ("where", 5, ("flip", 2))) * 8
        self.assertEqual(len(rows), 60)
        told = branches((6, rows))
        self.assertEqual(len(told), 64)
        self.assertEqual({whole(state) for marks, state in told}, {(1, 0, 6)})

    def test_branches_of_nought_are_left_out(self):
        same = (2, (("swing", 0), ("tie", 0, 1), ("look", 0), ("look", 1)))
        self.assertEqual([marks for marks, state in branches(same)], [(0, 0), (1, 1)])
        self.assertEqual([marks for marks, state in branches(same, 1)], [(0, 1), (1, 0)])
        self.check_run(same, 1)


class Shares(RunCase):
    def test_told_ones(self):
        bent = (("swing", 0), ("turn", 0, 1), ("swing", 0), ("look", 0))
        self.assertEqual(mark_shares((1, bent)), [((0,), (2, 1, 2)), ((1,), (2, -1, 2))])
        self.assertEqual(mark_shares((1, bent), 1), [((0,), (2, -1, 2)), ((1,), (2, 1, 2))])
        self.assertEqual(mark_shares((1, (("swing", 0), ("look", 0)))), [((0,), HALF), ((1,), HALF)])
        self.assertEqual(mark_shares((2, (("look", 1),)), 1), [((1,), ONE)])


class Marks(RunCase):
    def test_told_ones(self):
        told = (
            ((1, (("look", 0),)), 0, ["barred"]), ((1, (("look", 0),)), 1, ["sure"]),
            ((1, (("swing", 0), ("look", 0))), 1, ["open"]), ((2, (("look", 0), ("look", 1))), 1, ["barred", "sure"]),
            ((2, (("look", 1), ("look", 0))), 1, ["sure", "barred"]),
            ((1, (("swing", 0), ("look", 0), ("where", 0, ("flip", 0)), ("look", 0))), 0, ["open", "barred"]),
            ((1, (("flip", 0), ("look", 0), ("where", 0, ("flip", 0)), ("look", 0))), 0, ["sure", "barred"]),
            ((1, (("swing", 0), ("swing", 0), ("look", 0), ("swing", 0), ("look", 0))), 1, ["sure", "open"]))
        for circuit, place, due in told:
            self.assertEqual(marks_told(circuit, place), due)


class Telling(RunCase):
    def test_what_was_handed_in_stays_and_the_same_is_told_alike(self):
        circuit = any_circuit(random.Random(5), 3, 20, 3)
        check_told_alike(self, [(ask, (circuit, 3)) for ask in (branches, mark_shares, marks_told)])

    def test_a_list_that_was_told_and_changed_changes_nothing_later(self):
        circuit = (1, (("swing", 0), ("look", 0)))
        for ask in (branches, mark_shares, marks_told):
            told = ask(circuit)
            kept = list(told)
            self.assertIsNot(ask(circuit), told)
            told.append(None)
            told[0] = None
            self.assertEqual(ask(circuit), kept)
        none = marks_told((1, ()))
        none.append("sure")
        self.assertEqual(marks_told((1, ())), [])

    def test_arguments_are_those_of_the_interface(self):
        check_arguments(self, runs, [(ask, "(circuit, place=0)") for ask in (branches, mark_shares, marks_told)])


if __name__ == "__main__":
    unittest.main()
