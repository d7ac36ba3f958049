"""[0.2], [0.3], [0.5], [1.1] Numbers."""

import unittest
from fractions import Fraction

from wavewires import ring
from wavewires.ring import against, halved, mirrored, number, plus, times, turn_of, turned

from reckoning import MANY, MOST, added_up, check_arguments, is_least, product, raw_numbers, stands_for

NOUGHT = (0, 0, 0, 0, 0)
ONE = (1, 0, 0, 0, 0)
W = (0, 1, 0, 0, 0)
R = (0, 1, 0, -1, 0)
TURNS = (
    (1, 0, 0, 0, 0), (0, 1, 0, 0, 0), (0, 0, 1, 0, 0), (0, 0, 0, 1, 0),
    (-1, 0, 0, 0, 0), (0, -1, 0, 0, 0), (0, 0, -1, 0, 0), (0, 0, 0, -1, 0))
SOME = (
    NOUGHT, ONE, W, R, (0, 0, 0, 1, 0), (-1, 0, 0, 0, 0), (2, 0, 0, 0, 0), (1, 0, 0, 0, 1), (0, 1, 0, 0, 1),
    (1, 2, 3, 4, 0), (1, 0, 2, -5, 3), (-7, 4, 2, 2, 400), (1, 0, 0, 0, 399), (0, 3, 0, 4, 200),
    (MANY, -MOST, MANY - 1, MOST, 400), (MOST, MOST, MOST, MOST, 0))


def sampled(seed, many):
    return [number(*raw) for raw in raw_numbers(seed, many)]


class NumberCase(unittest.TestCase):
    def check_number(self, x, fractions):
        self.assertIs(type(x), tuple)
        self.assertEqual([type(part) for part in x], [int] * 5)
        self.assertTrue(is_least(x), "not in least form")
        self.assertTrue(stands_for(x) == fractions, "stands for another number")


class LeastForm(NumberCase):
    def test_told_ones(self):
        told = (
            ((0, 0, 0, 0), NOUGHT), ((0, 0, 0, 0, 0), NOUGHT), ((0, 0, 0, 0, 1), NOUGHT), ((0, 0, 0, 0, 400), NOUGHT),
            ((1, 0, 0, 0), ONE), ((2, 0, 0, 0, 2), ONE), ((0, 1, 0, -1, 1), ONE), ((2, 0, 0, 0, 1), R),
            ((1, 0, 0, 0, 1), (1, 0, 0, 0, 1)), ((2, 0, 0, 0, 3), (1, 0, 0, 0, 1)), ((4, 0, 0, 0, 3), R),
            ((1, 0, 1, 0, 1), W), ((1, 1, 1, 1, 1), (0, 1, 1, 0, 0)), ((-2, -4, -6, -8, 2), (-1, -2, -3, -4, 0)),
            ((6, 0, 0, 0, 0), (6, 0, 0, 0, 0)), ((-1, 0, 1, 0, 1), (0, 0, 0, 1, 0)), ((1, 2, 2, 2, 400), (1, 2, 2, 2, 400)),
            ((1 << 200, 0, 0, 0, 400), ONE), ((1 << 200, 0, 0, 0, 399), R), ((1 << 199, 0, 0, 0, 399), (1, 0, 0, 0, 1)))
        for raw, least in told:
            self.assertEqual(number(*raw), least, raw)

    def test_any_parts(self):
        for raw in raw_numbers(1, 600):
            self.check_number(number(*raw), stands_for(raw))

    def test_all_small_parts(self):
        for i in range(5 ** 4):
            parts = [i // 5 ** j % 5 - 2 for j in range(4)]
            for k in (0, 1, 2, 3, 4, 5):
                raw = tuple(parts) + (k,)
                self.check_number(number(*raw), stands_for(raw))

    def test_k_left_out_is_nought(self):
        for a, b, c, d, k in raw_numbers(2, 40):
            self.assertTrue(number(a, b, c, d) == number(a, b, c, d, 0) == (a, b, c, d, 0))
        self.assertEqual(number(a=4, b=3, c=2, d=1, k=0), (4, 3, 2, 1, 0))

    def test_parts_of_300_figures(self):
        for k in (0, 1, 2, 17, 399, 400):
            for raw in ((MANY, -MOST, MOST, -MANY, k), (MOST - 1, 0, 0, 0, k), (0, 0, -MOST, 0, k), (MOST,) * 4 + (k,)):
                self.check_number(number(*raw), stands_for(raw))

    def test_somewhat_beyond_the_bound(self):
        for raw in ((1, 0, 0, 0, 401), (6, 4, 2, 8, 900), (0, 0, 0, 0, 5000), (1 << 3000, 0, 0, 0, 5000)):
            self.check_number(number(*raw), stands_for(raw))

    def test_one_tuple_for_each_number(self):
        for x in sampled(3, 80):
            a, b, c, d, k = x
            self.assertTrue(number(2 * a, 2 * b, 2 * c, 2 * d, k + 2) == x)
            self.assertTrue(number(b - d, a + c, b + d, c - a, k + 1) == x)
            self.assertTrue(number(*x) == x)


class Reckoning(NumberCase):
    def pairs(self):
        mixed = sampled(4, 60)
        return [(x, y) for x in SOME for y in SOME] + list(zip(mixed, reversed(mixed)))

    def test_plus(self):
        for x, y in self.pairs():
            self.check_number(plus(x, y), added_up(stands_for(x), stands_for(y)))

    def test_plus_told_ones(self):
        self.assertEqual(plus(ONE, ONE), (2, 0, 0, 0, 0))
        self.assertEqual(plus((1, 0, 0, 0, 1), (1, 0, 0, 0, 1)), R)
        self.assertEqual(plus((1, 0, 0, 0, 2), (1, 0, 0, 0, 2)), ONE)
        self.assertEqual(plus(ONE, (1, 0, 0, 0, 1)), (1, 1, 0, -1, 1))
        self.assertEqual(plus((1, 0, 0, 0, 400), (-1, 0, 0, 0, 400)), NOUGHT)

    def test_times(self):
        for x, y in self.pairs():
            self.check_number(times(x, y), product(stands_for(x), stands_for(y)))

    def test_times_told_ones(self):
        self.assertEqual(times(R, R), (2, 0, 0, 0, 0))
        self.assertEqual(times(W, times(W, times(W, W))), against(ONE))
        self.assertEqual(times((1, 0, 0, 0, 400), (1, 0, 0, 0, 399)), (1, 0, 0, 0, 799))
        self.assertEqual(times((1, 1, 0, 0, 0), (1, 0, 0, -1, 0)), (2, 1, 0, -1, 0))

    def test_nought_and_one(self):
        for x in SOME + tuple(sampled(5, 40)):
            self.assertTrue(plus(x, NOUGHT) == plus(NOUGHT, x) == x)
            self.assertTrue(times(x, ONE) == times(ONE, x) == x)
            self.assertEqual(times(x, NOUGHT), NOUGHT)
            self.assertEqual(times(NOUGHT, x), NOUGHT)
            self.assertEqual(plus(x, against(x)), NOUGHT)

    def test_however_put_together(self):
        mixed = SOME + tuple(sampled(6, 30))
        for i, x in enumerate(mixed):
            y = mixed[(3 * i + 1) % len(mixed)]
            z = mixed[(7 * i + 2) % len(mixed)]
            self.assertTrue(plus(x, y) == plus(y, x))
            self.assertTrue(times(x, y) == times(y, x))
            self.assertTrue(plus(plus(x, y), z) == plus(x, plus(y, z)))
            self.assertTrue(times(times(x, y), z) == times(x, times(y, z)))
            self.assertTrue(times(x, plus(y, z)) == plus(times(x, y), times(x, z)))

    def test_against(self):
        for x in SOME + tuple(sampled(7, 40)):
            self.check_number(against(x), tuple(-part for part in stands_for(x)))
            self.assertTrue(against(x) == times(x, (-1, 0, 0, 0, 0)))
            self.assertTrue(against(against(x)) == x)

    def test_halved(self):
        self.assertEqual(halved(NOUGHT), NOUGHT)
        self.assertEqual(halved(ONE), (1, 0, 0, 0, 1))
        self.assertEqual(halved(R), ONE)
        self.assertEqual(halved((2, 0, 0, 0, 0)), R)
        self.assertEqual(halved((1, 0, 0, 0, 400)), (1, 0, 0, 0, 401))
        by_root = (Fraction(0), Fraction(1, 2), Fraction(0), Fraction(-1, 2))
        for x in SOME + tuple(sampled(8, 40)):
            self.check_number(halved(x), product(stands_for(x), by_root))
            self.assertTrue(times(halved(x), R) == x)
            self.assertTrue(halved(times(x, R)) == x)


class Turning(NumberCase):
    def test_turned_is_times_turns(self):
        for x in SOME + tuple(sampled(9, 20)):
            for e in range(8):
                self.assertTrue(turned(x, e) == times(x, TURNS[e]))
                self.check_number(turned(x, e), product(stands_for(x), stands_for(TURNS[e])))

    def test_by_nought_and_by_eights(self):
        for x in SOME:
            for e in (0, 8, 16, -8, -800, 8 * MANY, -8 * MANY):
                self.assertTrue(turned(x, e) == x)
            self.assertTrue(turned(x, 4) == against(x))

    def test_below_nought_and_beyond_eight(self):
        self.assertEqual(turned(ONE, -1), (0, 0, 0, -1, 0))
        self.assertEqual(turned(ONE, 9), W)
        for x in SOME:
            for e in (-1, -3, -7, -9, -20, 11, 1001, MANY, -MANY, MOST, -MOST):
                self.assertTrue(turned(x, e) == times(x, TURNS[e % 8]))
                self.assertTrue(turned(turned(x, e), -e) == x)
                self.assertTrue(turned(turned(x, e), 5) == turned(x, e + 5))

    def test_turn_of_each_turn(self):
        for e in range(8):
            self.assertEqual(turn_of(TURNS[e]), e)
            self.assertIs(type(turn_of(TURNS[e])), int)
            self.assertEqual(turn_of(turned(ONE, e - 16)), e)

    def test_turn_of_others(self):
        others = (
            NOUGHT, R, halved(ONE), halved(W), (2, 0, 0, 0, 0), (-2, 0, 0, 0, 0), (1, 1, 0, 0, 0), (1, 0, 1, 0, 0),
            (0, 0, 0, 3, 0), (1, 0, 0, 0, 2), (1, 0, 0, 0, 400), (1, -1, 1, -1, 0), (MANY, 0, 0, 0, 0))
        for x in others:
            self.assertIsNone(turn_of(x))

    def test_turn_of_what_comes_to_a_turn(self):
        self.assertEqual(turn_of(number(1, 0, 1, 0, 1)), 1)
        self.assertEqual(turn_of(halved(R)), 0)
        self.assertEqual(turn_of(number(0, 0, -(1 << 200), 0, 400)), 6)


class Mirroring(NumberCase):
    def test_told_ones(self):
        self.assertEqual(mirrored(NOUGHT), NOUGHT)
        self.assertEqual(mirrored(ONE), ONE)
        self.assertEqual(mirrored(R), R)
        self.assertEqual(mirrored((1, 2, 3, 4, 5)), (1, -4, -3, -2, 5))
        for e in range(8):
            self.assertEqual(mirrored(TURNS[e]), TURNS[7 * e % 8])

    def test_w_to_the_seventh_for_each_w(self):
        for x in SOME + tuple(sampled(10, 40)):
            a, b, c, d, k = x
            put = number(a, 0, 0, 0, k)
            for part, e in ((b, 7), (c, 14), (d, 21)):
                put = plus(put, times(number(part, 0, 0, 0, k), TURNS[e % 8]))
            self.assertTrue(mirrored(x) == put)
            self.assertTrue(is_least(mirrored(x)))
            self.assertTrue(mirrored(mirrored(x)) == x)

    def test_of_products_and_sums(self):
        mixed = SOME + tuple(sampled(11, 30))
        for i, x in enumerate(mixed):
            y = mixed[(5 * i + 3) % len(mixed)]
            self.assertTrue(mirrored(times(x, y)) == times(mirrored(x), mirrored(y)))
            self.assertTrue(mirrored(plus(x, y)) == plus(mirrored(x), mirrored(y)))


class Telling(NumberCase):
    def test_the_same_is_told_alike(self):
        mixed = SOME + tuple(sampled(12, 10))
        asks = [(plus, 2), (times, 2), (against, 1), (mirrored, 1), (halved, 1), (turn_of, 1)]
        for ask, many in asks:
            first = [ask(*((x,) if many == 1 else (x, y))) for x in mixed for y in mixed]
            again = [ask(*((x,) if many == 1 else (x, y))) for x in mixed for y in mixed]
            self.assertTrue(first == again)

    def test_what_is_told_may_be_handed_in_again(self):
        x = (MANY, -MOST, 1, 2, 400)
        for i in range(5):
            y = plus(times(x, x), halved(turned(against(mirrored(x)), i)))
            self.check_number(y, stands_for(y))
            self.assertTrue(times(halved(y), R) == y)
            x = y

    def test_arguments_are_those_of_the_interface(self):
        told = (
            (number, "(a, b, c, d, k=0)"), (plus, "(x, y)"), (times, "(x, y)"), (against, "(x)"),
            (turned, "(x, e)"), (mirrored, "(x)"), (halved, "(x)"), (turn_of, "(x)"))
        check_arguments(self, ring, told)


if __name__ == "__main__":
    unittest.main()
