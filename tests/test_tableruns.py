"""[8.6] Runs by tables: the marks and shares of the runs by states, and tables that belong to their states."""

import random
import unittest

from wavewires import tableruns
from wavewires.errors import OddTurn
from wavewires.runs import branches, mark_shares
from wavewires.tableruns import table_branches
from wavewires.tables import settled, table_of
from wavewires.words import word_done

from reckoning import (
    all_bits, any_circuit, check_arguments, check_told_alike, even_rows, is_table, model_branches, product, turn_parts)


def model_share(model):
    """The sum of the sizes of a model's numbers, as four fractions."""
    total = [0] * 4
    for a, b, c, d in model.values():
        size = product((a, b, c, d), (a, -d, -c, -b))
        total = [x + y for x, y in zip(total, size)]
    return tuple(total)


class TableRuns(unittest.TestCase):
    def check_run(self, circuit, place):
        told = table_branches(circuit, place)
        self.assertIs(type(told), list)
        self.assertEqual({(type(branch), len(branch)) for branch in told}, {(tuple, 3)})
        by_states = branches(circuit, place)
        self.assertEqual([branch[0] for branch in told], [branch[0] for branch in by_states])
        shares = [(marks, (1, 0, opened)) for marks, table, opened in told]
        self.assertEqual(shares, mark_shares(circuit, place))
        for (marks, table, opened), (same, state) in zip(told, by_states):
            self.assertEqual((type(marks), type(opened)), (tuple, int))
            self.assertTrue(is_table(table, circuit[0]), table)
            for helper, keeper in table:
                self.assertEqual(word_done(state, keeper), state)
        return told

    def test_told_ones(self):
        told = (
            ((1, ()), 0, [((), ((0, 1, 0),), 0)]), ((1, ()), 1, [((), ((0, 1, 2),), 0)]),
            ((1, (("swing", 0),)), 1, [((), ((1, 0, 2),), 0)]),
            ((1, (("look", 0),)), 1, [((1,), ((0, 1, 2),), 0)]),
            ((1, (("swing", 0), ("look", 0))), 0, [((0,), ((0, 1, 0),), 1), ((1,), ((0, 1, 2),), 1)]),
            ((1, (("swing", 0), ("look", 0), ("look", 0))), 0, [((0, 0), ((0, 1, 0),), 1), ((1, 1), ((0, 1, 2),), 1)]),
            ((1, (("swing", 0), ("look", 0), ("where", 0, ("flip", 0)), ("look", 0))), 0, [
                ((0, 0), ((0, 1, 0),), 1), ((1, 0), ((0, 1, 0),), 1)]),
            ((1, (("flip", 0), ("look", 0), ("swing", 0), ("where", 0, ("turn", 0, 4)), ("swing", 0))), 0, [
                ((1,), ((0, 1, 0),), 0)]),
            ((1, (("swing", 0), ("look", 0), ("where", 0, ("flip", 0)), ("swing", 0), ("swing", 0), ("look", 0))), 0, [
                ((0, 0), ((0, 1, 0),), 1), ((1, 0), ((0, 1, 0),), 1)]),
            ((2, (("swing", 0), ("tie", 0, 1), ("look", 1), ("look", 0))), 0, [
                ((0, 0), ((0, 2, 0), (0, 1, 0)), 1), ((1, 1), ((0, 2, 2), (0, 1, 2)), 1)]),
            ((1, (("swing", 0), ("look", 0), ("swing", 0), ("look", 0))), 1, [
                (marks, ((0, 1, 2 * marks[1]),), 2) for marks in all_bits(2)]))
        for circuit, place, due in told:
            found = self.check_run(circuit, place)
            self.assertEqual([(marks, settled(table), opened) for marks, table, opened in found], due)

    def test_place_left_out_is_nought(self):
        circuit = (2, (("swing", 0), ("look", 0)))
        self.assertEqual(table_branches(circuit), table_branches(circuit, 0))
        self.assertEqual(table_branches(circuit=circuit, place=2), table_branches(circuit, 2))
        self.assertEqual(table_branches((3, ()), 6), [((), table_of(3, 6), 0)])

    def test_any(self):
        chance = random.Random(1)
        opened = []
        for turn in range(80):
            wires = chance.randint(1, 4)
            many = chance.choice((6, 12, 25, 60))
            circuit = any_circuit(chance, wires, many, chance.randint(0, 6), even_rows(wires))
            for place in chance.sample(range(2 ** wires), 2):
                opened += [branch[2] for branch in self.check_run(circuit, place)]
        self.assertLessEqual({0, 1, 2, 3, 4}, set(opened))

    def test_against_the_words_of_the_document(self):
        chance = random.Random(2)
        for turn in range(25):
            wires = chance.randint(1, 3)
            circuit = any_circuit(chance, wires, 12, chance.randint(1, 3), even_rows(wires))
            due = [(marks, model_share(model)) for marks, model in model_branches(circuit, (0,) * wires)]
            told = []
            for marks, table, opened in table_branches(circuit):
                told.append((marks, tuple(part / 2 ** opened for part in turn_parts(0))))
            self.assertEqual(told, due)

    def test_at_the_bounds(self):
        rows = tuple((kind, wire) for wire in range(6) for kind in ("swing", "look"))
        rows += (("swing", 0), ("tie", 0, 5), ("turn", 1, 2), ("where", 5, ("flip", 2)), ("swing", 3), ("flip", 4)) * 8
        self.assertEqual(len(rows), 60)
        told = self.check_run((6, rows), 63)
        self.assertEqual([(marks, opened) for marks, table, opened in told], [(marks, 6) for marks in all_bits(6)])
        chance = random.Random(3)
        for turn in range(3):
            self.check_run(any_circuit(chance, 6, 60, 6, even_rows(6)), chance.randrange(64))

    def test_odd_turns(self):
        for e in (1, 3, 5, 7):
            for rows in (
                    (("turn", 0, e),), (("look", 0), ("turn", 0, e)),
                    (("swing", 0), ("look", 0), ("turn", 0, 2), ("turn", 1, e)),
                    (("turn", 0, e), ("turn", 0, e)),
                    (("look", 0), ("where", 0, ("flip", 1)), ("turn", 1, e), ("look", 1))):
                for place in range(4):
                    with self.assertRaises(OddTurn) as taken:
                        table_branches((2, rows), place)
                    self.assertIs(type(taken.exception), OddTurn)
        chance = random.Random(4)
        for turn in range(20):
            wires, rows = any_circuit(chance, 3, 20, 3, even_rows(3))
            at = chance.randrange(21)
            with self.assertRaises(OddTurn):
                table_branches((wires, rows[:at] + (("turn", 1, 5),) + rows[at:]))

    def test_what_was_handed_in_stays_and_the_same_is_told_alike(self):
        circuit = any_circuit(random.Random(5), 3, 20, 3, even_rows(3))
        check_told_alike(self, [(table_branches, (circuit, 3)), (table_branches, (circuit,))])
        told = table_branches(circuit)
        kept = list(told)
        self.assertIsNot(table_branches(circuit), told)
        told.append(None)
        told[0] = None
        self.assertEqual(table_branches(circuit), kept)

    def test_arguments_are_those_of_the_interface(self):
        check_arguments(self, tableruns, [(table_branches, "(circuit, place=0)")])


if __name__ == "__main__":
    unittest.main()
