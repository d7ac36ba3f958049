"""[11.1] Looks put off."""

import random
import unittest

from wavewires import later
from wavewires.circuits import is_plain, looks_in
from wavewires.errors import TooGreat
from wavewires.later import put_off
from wavewires.runs import mark_shares, marks_told

from reckoning import any_circuit, check_arguments, check_told_alike


def model_put_off(circuit):
    """By the words of [11.1]."""
    wires, rows = circuit
    told, mark = [], 0
    for row in rows:
        if row[0] == "look":
            told.append(("tie", row[1], wires + mark))
            mark += 1
        elif row[0] == "where" and row[2][0] == "flip":
            told.append(("tie", wires + row[1], row[2][1]))
        elif row[0] == "where":
            told.append(("sign", wires + row[1], row[2][1]))
        else:
            told.append(row)
    return (wires + mark, tuple(told + [("look", wires + m) for m in range(mark)]))


class PutOff(unittest.TestCase):
    def check_put_off(self, circuit, places):
        told = put_off(circuit)
        self.assertEqual(told, model_put_off(circuit))
        self.assertEqual((type(told), type(told[1])), (tuple, tuple))
        looks = looks_in(circuit)
        for place in places:
            self.assertEqual(mark_shares(told, place * 2 ** looks), mark_shares(circuit, place))
            self.assertEqual(marks_told(told, place * 2 ** looks), marks_told(circuit, place))
        self.assertTrue(is_plain((told[0], told[1][:len(circuit[1])])))

    def check_too_great(self, circuit):
        with self.assertRaises(TooGreat) as taken:
            put_off(circuit)
        self.assertIs(type(taken.exception), TooGreat)

    def test_told_ones(self):
        told = (
            ((1, ()), (1, ())), ((2, (("swing", 0), ("tie", 0, 1))), (2, (("swing", 0), ("tie", 0, 1)))),
            ((1, (("look", 0),)), (2, (("tie", 0, 1), ("look", 1)))),
            ((1, (("swing", 0), ("look", 0), ("swing", 0), ("look", 0))), (
                3, (("swing", 0), ("tie", 0, 1), ("swing", 0), ("tie", 0, 2), ("look", 1), ("look", 2)))),
            ((2, (("look", 1), ("where", 0, ("flip", 0)))), (3, (("tie", 1, 2), ("tie", 2, 0), ("look", 2)))),
            ((2, (("look", 1), ("where", 0, ("turn", 0, 4)))), (3, (("tie", 1, 2), ("sign", 2, 0), ("look", 2)))),
            ((2, (("look", 1), ("look", 0), ("where", 1, ("flip", 1)), ("turn", 0, 3), ("where", 0, ("turn", 1, 4)))), (
                4, (("tie", 1, 2), ("tie", 0, 3), ("tie", 3, 1), ("turn", 0, 3), ("sign", 2, 1), ("look", 2),
                    ("look", 3)))))
        for circuit, due in told:
            self.assertEqual(put_off(circuit), due)
            self.check_put_off(circuit, range(2 ** circuit[0]))

    def test_any(self):
        chance = random.Random(1)
        for turn in range(60):
            wires = chance.randint(1, 3)
            looks = chance.randint(0, 4 - wires)
            self.check_put_off(any_circuit(chance, wires, chance.choice((5, 12, 25)), looks), range(2 ** wires))

    def test_six_wires(self):
        chance = random.Random(2)
        for wires in range(1, 7):
            looks = 6 - wires
            circuit = any_circuit(chance, wires, 60 - looks, looks)
            self.check_put_off(circuit, chance.sample(range(2 ** wires), min(2, 2 ** wires)))
            self.assertEqual((put_off(circuit)[0], len(put_off(circuit)[1])), (6, 60))

    def test_too_many_wires(self):
        chance = random.Random(3)
        for wires in range(1, 7):
            for looks in range(7 - wires, 7):
                self.check_too_great((wires, (("look", 0),) * looks))
                self.check_too_great(any_circuit(chance, wires, 10, looks))

    def test_too_many_rows(self):
        swings = (("swing", 0),)
        for looks in range(1, 6):
            rows = (("look", 0),) * looks
            self.assertEqual(len(put_off((1, swings * (60 - 2 * looks) + rows))[1]), 60)
            self.check_too_great((1, swings * (61 - 2 * looks) + rows))
            self.check_too_great((1, rows + swings * (60 - looks)))
        self.assertEqual(put_off((6, swings * 60)), (6, swings * 60))

    def test_what_was_handed_in_stays_and_the_same_is_told_alike(self):
        check_told_alike(self, [(put_off, (any_circuit(random.Random(4), 2, 9, 2),)), (put_off, ((1, ()),))])

    def test_arguments_are_those_of_the_interface(self):
        check_arguments(self, later, [(put_off, "(circuit)")])


if __name__ == "__main__":
    unittest.main()
