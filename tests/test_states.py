"""[0.2], [0.3], [0.6], [2.1] to [2.4] Places, states, plain rows, the whole and the inner number, columns."""

import random
import unittest
from fractions import Fraction

from wavewires import states
from wavewires.errors import HasLooks
from wavewires.ring import mirrored, plus, times, turned
from wavewires.shares import share_less
from wavewires.states import all_done, beginning, bits_of, column, done, inner, place_of, whole

from reckoning import (
    MOST, added_up, all_bits, any_circuit, any_state, check_arguments, check_told_alike, is_least, model_done,
    model_of, plain_rows, product, share_is_least, share_stands_for, stands_for, turn_parts)

O = (0, 0, 0, 0, 0)
I = (1, 0, 0, 0, 0)
M = (-1, 0, 0, 0, 0)
W = (0, 1, 0, 0, 0)
H = (1, 0, 0, 0, 1)
GREAT = (MOST, -MOST, MOST - 1, 1, 200)


class StateCase(unittest.TestCase):
    def check_state(self, state, wires):
        self.assertIs(type(state), tuple)
        self.assertEqual(len(state), 2 ** wires)
        for x in state:
            self.assertIs(type(x), tuple)
            self.assertEqual([type(part) for part in x], [int] * 5)
            self.assertTrue(is_least(x), "not in least form")

    def check_done(self, state, row, wires):
        told = done(state, row)
        self.check_state(told, wires)
        self.assertTrue(model_of(told) == model_done(model_of(state), row), row)


class Places(unittest.TestCase):
    def test_told_ones(self):
        told = (
            ((0,), 0), ((1,), 1), ((1, 0), 2), ((0, 1), 1), ((1, 1), 3), ((1, 0, 0), 4), ((0, 0, 1), 1),
            ((1, 1, 0), 6), ((0, 1, 1, 0), 6), ((1, 0, 0, 0, 0, 0), 32), ((0, 0, 0, 0, 0, 1), 1),
            ((1, 1, 1, 1, 1, 1), 63), ((0, 0, 0, 0, 0, 0), 0), ((1, 0, 1, 1, 0, 1), 45))
        for bits, place in told:
            self.assertEqual(place_of(bits), place)
            self.assertEqual(bits_of(len(bits), place), bits)

    def test_all(self):
        for wires in range(1, 7):
            for place, bits in enumerate(all_bits(wires)):
                self.assertEqual(place_of(bits), place)
                self.assertIs(type(place_of(bits)), int)
                self.assertEqual(bits_of(wires, place), bits)
                self.assertIs(type(bits_of(wires, place)), tuple)
                self.assertEqual({type(bit) for bit in bits_of(wires, place)}, {int})


class Beginnings(StateCase):
    def test_told_ones(self):
        self.assertEqual(beginning(1), (I, O))
        self.assertEqual(beginning(1, 1), (O, I))
        self.assertEqual(beginning(2, 2), (O, O, I, O))
        self.assertEqual(beginning(3), (I,) + (O,) * 7)

    def test_all(self):
        for wires in range(1, 7):
            self.assertEqual(beginning(wires), beginning(wires, 0))
            for place in range(2 ** wires):
                state = beginning(wires, place)
                self.check_state(state, wires)
                self.assertEqual(state, (O,) * place + (I,) + (O,) * (2 ** wires - place - 1))


class Rows(StateCase):
    def test_told_ones(self):
        a, b, c, d = (1, 2, 3, 4, 0), (0, 1, 0, 0, 1), (5, 0, 0, 0, 0), (0, 0, 7, 0, 2)
        told = (
            ((I, O), ("swing", 0), (H, H)), ((O, I), ("swing", 0), (H, (-1, 0, 0, 0, 1))), ((H, H), ("swing", 0), (I, O)),
            ((W, W), ("swing", 0), ((1, 0, 1, 0, 0), O)), ((I, I), ("turn", 0, 1), (I, W)),
            ((I, I), ("turn", 0, 4), (I, M)), ((I, I), ("turn", 0, 7), (I, (0, 0, 0, -1, 0))), ((a, b), ("flip", 0), (b, a)),
            ((a, b, c, d), ("flip", 0), (c, d, a, b)), ((a, b, c, d), ("flip", 1), (b, a, d, c)),
            ((a, b, c, d), ("tie", 0, 1), (a, b, d, c)), ((a, b, c, d), ("tie", 1, 0), (a, d, c, b)),
            ((a, b, c, d), ("sign", 0, 1), (a, b, c, (0, 0, -7, 0, 2))), ((a, b, c, d), ("cross", 0, 1), (a, c, b, d)),
            ((I, I, I, I), ("turn", 0, 2), (I, I, (0, 0, 1, 0, 0), (0, 0, 1, 0, 0))),
            ((I, I, I, I), ("turn", 1, 2), (I, (0, 0, 1, 0, 0), I, (0, 0, 1, 0, 0))),
            ((I, O, O, O), ("swing", 0), (H, O, H, O)), ((I, O, O, O), ("swing", 1), (H, H, O, O)))
        for state, row, behind in told:
            self.assertEqual(done(state, row), behind, row)

    def test_each_row_over_few_wires(self):
        chance = random.Random(1)
        for wires in (1, 2, 3):
            for row in plain_rows(wires):
                for state in (any_state(chance, wires), any_state(chance, wires)):
                    self.check_done(state, row, wires)

    def test_each_row_from_each_place(self):
        for wires in (1, 2, 3, 4):
            for row in plain_rows(wires):
                for place in range(2 ** wires):
                    self.check_done(beginning(wires, place), row, wires)

    def test_rows_over_many_wires(self):
        chance = random.Random(2)
        for wires in (4, 5, 6):
            state = any_state(chance, wires)
            for kind in ("swing", "turn", "flip", "tie", "sign", "cross"):
                for row in chance.sample([row for row in plain_rows(wires) if row[0] == kind], 3):
                    self.check_done(state, row, wires)

    def test_great_numbers(self):
        state = (GREAT, (1, 0, 0, 0, 200), (MOST, MOST, MOST, MOST, 0), (MOST, 0, 0, 0, 0))
        for row in plain_rows(2):
            self.check_done(state, row, 2)

    def test_nought_stays_nought(self):
        for wires in (1, 2, 6):
            for row in plain_rows(wires):
                self.assertEqual(done((O,) * 2 ** wires, row), (O,) * 2 ** wires)

    def test_done_again_they_lead_back(self):
        chance = random.Random(3)
        for wires in (1, 2, 4):
            state = any_state(chance, wires)
            for row in plain_rows(wires):
                again = ("turn", row[1], 8 - row[2]) if row[0] == "turn" else row
                self.assertTrue(done(done(state, row), again) == state, row)

    def test_sign_and_cross_have_no_order(self):
        state = any_state(random.Random(4), 3)
        for kind in ("sign", "cross"):
            self.assertTrue(done(state, (kind, 0, 2)) == done(state, (kind, 2, 0)))
        self.assertFalse(done(state, ("tie", 0, 2)) == done(state, ("tie", 2, 0)))


class RowsInTurn(StateCase):
    def test_no_rows(self):
        for wires in (1, 6):
            state = any_state(random.Random(5), wires)
            self.assertTrue(all_done(state, ()) == state)

    def test_one_behind_the_other(self):
        chance = random.Random(6)
        for wires, many in ((1, 5), (2, 12), (3, 60), (6, 7)):
            rows = any_circuit(chance, wires, many)[1]
            state = any_state(chance, wires)
            model = model_of(state)
            for row in rows:
                model = model_done(model, row)
            told = all_done(state, rows)
            self.check_state(told, wires)
            self.assertTrue(model_of(told) == model)

    def test_their_order_counts(self):
        self.assertEqual(all_done((I, O), (("flip", 0), ("turn", 0, 1))), (O, W))
        self.assertEqual(all_done((I, O), (("turn", 0, 1), ("flip", 0))), (O, I))

    def test_sixty_rows_over_six_wires(self):
        rows = (("swing", 0), ("turn", 0, 1), ("swing", 5), ("tie", 5, 0), ("turn", 3, 3), ("swing", 3)) * 10
        state = all_done(beginning(6), rows)
        self.check_state(state, 6)
        self.assertEqual(whole(state), (1, 0, 0))


class Wholes(StateCase):
    def test_told_ones(self):
        self.assertEqual(whole((I, O)), (1, 0, 0))
        self.assertEqual(whole((O, O)), (0, 0, 0))
        self.assertEqual(whole((H, H)), (1, 0, 0))
        self.assertEqual(whole((I, W, O, O)), (2, 0, 0))
        self.assertEqual(whole(((1, 1, 0, 0, 0), O)), (2, 1, 0))
        self.assertEqual(whole(((1, 1, 0, 0, 2), (1, 0, 0, 0, 4))), (9, 4, 4))

    def test_is_the_sum_of_the_sizes(self):
        chance = random.Random(7)
        for wires in range(1, 7):
            state = any_state(chance, wires)
            total = (Fraction(0),) * 4
            for x in state:
                a, b, c, d = stands_for(x)
                total = added_up(total, product((a, b, c, d), (a, -d, -c, -b)))
            told = whole(state)
            self.assertEqual((type(told), [type(part) for part in told]), (tuple, [int] * 3))
            self.assertTrue(share_is_least(told))
            root = share_stands_for(told)[1]
            self.assertTrue((share_stands_for(told)[0], root, 0, -root) == total)

    def test_no_plain_row_changes_it(self):
        chance = random.Random(8)
        for wires in (1, 2, 3, 5):
            state = any_state(chance, wires)
            told = whole(state)
            self.assertIs(share_less((0, 0, 0), told), True)
            for row in plain_rows(wires):
                self.assertTrue(whole(done(state, row)) == told, row)


class Inner(StateCase):
    def test_told_ones(self):
        self.assertEqual(inner((I, O), (I, O)), I)
        self.assertEqual(inner((I, O), (O, I)), O)
        self.assertEqual(inner((W, O), (I, O)), (0, 0, 0, -1, 0))
        self.assertEqual(inner((I, O), (W, O)), W)
        self.assertEqual(inner((H, H), (I, O)), H)
        self.assertEqual(inner((I, W), (W, I)), (0, 1, 0, -1, 0))
        self.assertEqual(inner((I, W, O, W), (I, I, I, W)), (2, 0, 0, -1, 0))

    def test_is_the_sum_of_mirrored_by_number(self):
        chance = random.Random(9)
        for wires in range(1, 7):
            one, other = any_state(chance, wires), any_state(chance, wires)
            total = (Fraction(0),) * 4
            for x, y in zip(one, other):
                a, b, c, d = stands_for(x)
                total = added_up(total, product((a, -d, -c, -b), stands_for(y)))
            told = inner(one, other)
            self.assertEqual((type(told), [type(part) for part in told]), (tuple, [int] * 5))
            self.assertTrue(is_least(told) and stands_for(told) == total)

    def test_the_other_way_round_it_is_mirrored(self):
        chance = random.Random(10)
        one, other = any_state(chance, 3), any_state(chance, 3)
        self.assertTrue(inner(other, one) == mirrored(inner(one, other)))
        for e in range(8):
            further = tuple(turned(x, e) for x in other)
            self.assertTrue(inner(one, further) == turned(inner(one, other), e))
            self.assertTrue(inner(further, one) == turned(inner(other, one), -e))

    def test_with_itself_it_stands_for_the_whole(self):
        state = any_state(random.Random(11), 4)
        p, q = share_stands_for(whole(state))
        self.assertTrue(stands_for(inner(state, state)) == (p, q, 0, -q))

    def test_no_plain_row_changes_it(self):
        chance = random.Random(12)
        for wires in (1, 2, 3, 5):
            one, other = any_state(chance, wires), any_state(chance, wires)
            told = inner(one, other)
            for row in plain_rows(wires):
                self.assertTrue(inner(done(one, row), done(other, row)) == told, row)

    def test_great_numbers(self):
        self.assertTrue(inner((GREAT, GREAT), (GREAT, O)) == times(mirrored(GREAT), GREAT))
        self.assertTrue(
            inner((GREAT, W), (W, GREAT)) == plus(times(mirrored(GREAT), W), times(mirrored(W), GREAT)))


class Columns(StateCase):
    def test_told_ones(self):
        self.assertEqual(column((1, ()), 0), (I, O))
        self.assertEqual(column((1, ()), 1), (O, I))
        self.assertEqual(column((1, (("swing", 0),)), 1), (H, (-1, 0, 0, 0, 1)))
        self.assertEqual(column((2, (("swing", 0), ("tie", 0, 1))), 0), (H, O, O, H))
        self.assertEqual(column((2, (("swing", 0), ("tie", 0, 1))), 3), (O, H, (-1, 0, 0, 0, 1), O))
        self.assertEqual(column((6, ()), 63), (O,) * 63 + (I,))

    def test_from_each_place(self):
        chance = random.Random(13)
        for wires, many in ((1, 1), (2, 20), (3, 60), (6, 9)):
            circuit = any_circuit(chance, wires, many)
            for place in (range(2 ** wires) if wires < 4 else (0, 1, 40, 63)):
                model = {all_bits(wires)[place]: turn_parts(0)}
                for row in circuit[1]:
                    model = model_done(model, row)
                told = column(circuit, place)
                self.check_state(told, wires)
                self.assertTrue(model_of(told) == model)

    def test_columns_stand_square(self):
        circuit = any_circuit(random.Random(14), 3, 40)
        for p in range(8):
            for q in range(8):
                self.assertEqual(inner(column(circuit, p), column(circuit, q)), I if p == q else O)

    def test_looks_are_refused(self):
        refused = (
            (1, (("look", 0),)), (2, (("swing", 0), ("look", 1))), (2, (("look", 1), ("swing", 0))),
            (2, (("look", 0), ("where", 0, ("flip", 1)))), (6, (("look", 5),) * 6 + (("where", 5, ("turn", 1, 4)),)))
        for circuit in refused:
            with self.assertRaises(HasLooks) as taken:
                column(circuit, 0)
            self.assertIs(type(taken.exception), HasLooks)


class Telling(StateCase):
    def test_what_was_handed_in_stays_and_the_same_is_told_alike(self):
        chance = random.Random(15)
        state, other = any_state(chance, 3), any_state(chance, 3)
        circuit = any_circuit(chance, 3, 20)
        asks = [(done, (state, row)) for row in plain_rows(3)]
        asks += [
            (all_done, (state, circuit[1])), (whole, (state,)), (inner, (state, other)), (column, (circuit, 5)),
            (place_of, ((1, 0, 1),)), (bits_of, (3, 5)), (beginning, (3, 5))]
        check_told_alike(self, asks)

    def test_arguments_are_those_of_the_interface(self):
        told = (
            (place_of, "(bits)"), (bits_of, "(wires, place)"), (beginning, "(wires, place=0)"), (done, "(state, row)"),
            (all_done, "(state, rows)"), (whole, "(state)"), (inner, "(one, other)"), (column, "(circuit, place)"))
        check_arguments(self, states, told)


if __name__ == "__main__":
    unittest.main()
