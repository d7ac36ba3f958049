"""[0.2], [0.3], [0.5], [1.2], [1.3] Shares, and the sizes of numbers."""

import unittest
from fractions import Fraction

from wavewires import shares
from wavewires.ring import halved, mirrored, number, times, turned
from wavewires.shares import share, share_less, share_plus, share_times, size_of

from reckoning import (
    MANY, MOST, check_arguments, raw_numbers, raw_shares, share_is_least, share_stands_for, sign_of, stands_for)

NOUGHT = (0, 0, 0)
ONE = (1, 0, 0)
R = (0, 1, 0)
SOME = (
    NOUGHT, ONE, R, (-1, 0, 0), (0, -1, 0), (2, 0, 0), (3, -2, 0), (-3, 2, 0), (1, 0, 1), (0, 1, 1), (-1, 0, 800),
    (1, 0, 800), (1, 1, 800), (7, -5, 0), (-7, 5, 3), (MANY, -MOST, 0), (MOST, MOST, 800), (-MOST, MANY, 799))


def sampled(seed, many):
    return [share(*raw) for raw in raw_shares(seed, many)]


class ShareCase(unittest.TestCase):
    def check_share(self, x, fractions):
        self.assertIs(type(x), tuple)
        self.assertEqual([type(part) for part in x], [int] * 3)
        self.assertTrue(share_is_least(x), "not in least form")
        self.assertTrue(share_stands_for(x) == fractions, "stands for another share")


class LeastForm(ShareCase):
    def test_told_ones(self):
        told = (
            ((0, 0), NOUGHT), ((0, 0, 0), NOUGHT), ((0, 0, 800), NOUGHT), ((1, 0), ONE), ((2, 0, 1), ONE),
            ((2, 0, 0), (2, 0, 0)), ((2, 1, 1), (2, 1, 1)), ((4, 2, 1), (2, 1, 0)), ((4, 2, 5), (2, 1, 4)),
            ((-4, 8, 1), (-2, 4, 0)), ((-4, 8, 2), (-1, 2, 0)), ((-4, 8, 3), (-1, 2, 1)), ((0, 6, 2), (0, 3, 1)),
            ((1 << 800, 0, 800), ONE), ((1, 0, 800), (1, 0, 800)), ((0, -2, 800), (0, -1, 799)))
        for raw, least in told:
            self.assertEqual(share(*raw), least, raw)

    def test_any_parts(self):
        for raw in raw_shares(1, 600):
            self.check_share(share(*raw), share_stands_for(raw))

    def test_all_small_parts(self):
        for p in range(-8, 9):
            for q in range(-8, 9):
                for k in range(6):
                    self.check_share(share(p, q, k), share_stands_for((p, q, k)))

    def test_k_left_out_is_nought(self):
        for p, q, k in raw_shares(2, 40):
            self.assertTrue(share(p, q) == share(p, q, 0) == (p, q, 0))
        self.assertEqual(share(p=4, q=2, k=1), (2, 1, 0))

    def test_parts_of_300_figures(self):
        for k in (0, 1, 2, 799, 800):
            for raw in ((MANY, -MOST, k), (MOST - 1, 0, k), (0, 1 - MOST, k), (MOST, MOST, k)):
                self.check_share(share(*raw), share_stands_for(raw))

    def test_somewhat_beyond_the_bound(self):
        for raw in ((1, 0, 801), (6, 4, 2000), (0, 0, 2000)):
            self.check_share(share(*raw), share_stands_for(raw))


class Reckoning(ShareCase):
    def pairs(self):
        mixed = sampled(3, 60)
        return [(x, y) for x in SOME for y in SOME] + list(zip(mixed, reversed(mixed)))

    def test_plus(self):
        for x, y in self.pairs():
            s, t = share_stands_for(x), share_stands_for(y)
            self.check_share(share_plus(x, y), (s[0] + t[0], s[1] + t[1]))

    def test_plus_told_ones(self):
        self.assertEqual(share_plus((1, 0, 1), (1, 0, 1)), ONE)
        self.assertEqual(share_plus((1, 0, 2), (1, 0, 1)), (3, 0, 2))
        self.assertEqual(share_plus((1, 1, 800), (-1, -1, 800)), NOUGHT)
        self.assertEqual(share_plus(ONE, R), (1, 1, 0))

    def test_times(self):
        for x, y in self.pairs():
            s, t = share_stands_for(x), share_stands_for(y)
            self.check_share(share_times(x, y), (s[0] * t[0] + 2 * s[1] * t[1], s[0] * t[1] + s[1] * t[0]))

    def test_times_told_ones(self):
        self.assertEqual(share_times(R, R), (2, 0, 0))
        self.assertEqual(share_times((0, 1, 1), (0, 1, 0)), ONE)
        self.assertEqual(share_times((1, 1, 0), (-1, 1, 0)), ONE)
        self.assertEqual(share_times((1, 0, 800), (1, 0, 799)), (1, 0, 1599))

    def test_nought_and_one(self):
        for x in SOME + tuple(sampled(4, 40)):
            self.assertTrue(share_plus(x, NOUGHT) == share_plus(NOUGHT, x) == x)
            self.assertTrue(share_times(x, ONE) == share_times(ONE, x) == x)
            self.assertEqual(share_times(x, NOUGHT), NOUGHT)
            self.assertEqual(share_plus(x, share_times(x, (-1, 0, 0))), NOUGHT)

    def test_however_put_together(self):
        mixed = SOME + tuple(sampled(5, 30))
        for i, x in enumerate(mixed):
            y = mixed[(3 * i + 1) % len(mixed)]
            z = mixed[(7 * i + 2) % len(mixed)]
            self.assertTrue(share_plus(x, y) == share_plus(y, x))
            self.assertTrue(share_times(x, y) == share_times(y, x))
            self.assertTrue(share_plus(share_plus(x, y), z) == share_plus(x, share_plus(y, z)))
            self.assertTrue(share_times(share_times(x, y), z) == share_times(x, share_times(y, z)))
            self.assertTrue(
                share_times(x, share_plus(y, z)) == share_plus(share_times(x, y), share_times(x, z)))


class Less(ShareCase):
    def check_order(self, x, y):
        s, t = share_stands_for(x), share_stands_for(y)
        sign = sign_of(s[0] - t[0], s[1] - t[1])
        self.assertIs(share_less(x, y), sign < 0)
        self.assertIs(share_less(y, x), sign > 0)

    def test_told_ones(self):
        rising = (
            (-MOST, 0, 0), (0, -2, 0), (-2, 0, 0), (0, -1, 0), (-1, 0, 0), (7, -5, 0), (-1, 0, 800), NOUGHT,
            (1, 0, 800), (-7, 5, 0), (3, -2, 0), (1, 0, 2), (-1, 1, 0), (1, 0, 1), (2, -1, 0), (0, 1, 1), ONE,
            R, (3, 0, 1), (2, 0, 0), (1, 1, 0), (MANY, 0, 0))
        values = [Fraction(p, 1 << k) + Fraction(q, 1 << k) * Fraction(14142135623730951, 10 ** 16)
                  for p, q, k in rising]
        self.assertEqual([i for i in range(len(values) - 1) if values[i] >= values[i + 1]], [])
        for i, x in enumerate(rising):
            for j, y in enumerate(rising):
                self.assertIs(share_less(x, y), i < j, (x, y))

    def test_alike(self):
        for x in SOME + tuple(sampled(6, 40)):
            self.assertIs(share_less(x, x), False)

    def test_any(self):
        mixed = SOME + tuple(sampled(7, 40))
        for x in mixed:
            for y in mixed:
                self.check_order(x, y)

    def test_all_small_parts(self):
        small = [share(p, q, k) for p in range(-4, 5) for q in range(-4, 5) for k in range(3)]
        for x in small:
            for y in small:
                s, t = share_stands_for(x), share_stands_for(y)
                near = float(s[0] - t[0]) + float(s[1] - t[1]) * 2 ** 0.5
                self.assertIs(share_less(x, y), near < -1e-9)

    def test_close_together(self):
        # p / q comes ever closer to r, from below and above by turns.
        p, q = 1, 1
        for i in range(380):
            self.check_order((p, 0, 0), (0, q, 0))
            self.check_order((p, -q, 0), NOUGHT)
            self.check_order((-p, q, 0), NOUGHT)
            self.check_order((p, -q, 800), (1, 0, 800))
            self.assertIs(share_less((p, 0, 0), (0, q, 0)), i % 2 == 0)
            p, q = p + 2 * q, p + q
        self.assertGreater(p, 10 ** 140)

    def test_far_apart(self):
        self.assertIs(share_less((-MOST, -MOST, 0), (MOST, MOST, 0)), True)
        self.assertIs(share_less((MOST, MOST, 0), (-MOST, -MOST, 0)), False)
        self.assertIs(share_less((1, 0, 800), (MOST, 0, 0)), True)
        self.assertIs(share_less((MOST, 0, 800), (0, 1, 0)), False)
        self.assertIs(share_less((1, 0, 800), (0, 1, 0)), True)
        self.check_order((MOST, 0, 800), (0, 1, 0))
        self.check_order((MOST, -MANY, 800), (-1, 1, 0))

    def test_unlike_k(self):
        self.assertIs(share_less((1, 0, 2), (1, 0, 1)), True)
        self.assertIs(share_less((1, 0, 1), (1, 0, 2)), False)
        self.assertIs(share_less((-1, 0, 2), (-1, 0, 1)), False)
        self.assertIs(share_less((0, 1, 1), (0, 1, 0)), True)
        self.assertIs(share_less((0, -1, 1), (0, -1, 0)), False)


class Sizes(ShareCase):
    def numbers(self):
        told = [(0, 0, 0, 0), (1, 0, 0, 0), (0, 1, 0, -1), (1, 1, 0, 0), (1, -1, 0, 0), (1, 1, 1, 1), (1, 0, 0, 0, 1)]
        great = [(MANY, -MOST, MOST, MANY - 1, 400), (MOST,) * 4, (1, 2, 3, 4, 399)]
        return [number(*raw) for raw in told + great + raw_numbers(8, 60)]

    def test_told_ones(self):
        self.assertEqual(size_of((0, 0, 0, 0, 0)), NOUGHT)
        self.assertEqual(size_of((1, 0, 0, 0, 0)), ONE)
        self.assertEqual(size_of((0, 1, 0, -1, 0)), (2, 0, 0))
        self.assertEqual(size_of((1, 0, 0, 0, 1)), (1, 0, 1))
        self.assertEqual(size_of((1, 1, 0, 0, 0)), (2, 1, 0))
        self.assertEqual(size_of((1, -1, 0, 0, 0)), (2, -1, 0))
        self.assertEqual(size_of((1, 1, 0, 0, 2)), (2, 1, 2))
        self.assertEqual(size_of((1, 0, 0, 0, 400)), (1, 0, 400))
        self.assertEqual(size_of((1, 0, 0, 1, 0)), (2, -1, 0))

    def test_from_nought_on(self):
        for x in self.numbers():
            self.assertIs(share_less(size_of(x), NOUGHT), False)
            self.assertTrue((size_of(x) == NOUGHT) is (x == (0, 0, 0, 0, 0)))
            self.assertIs(share_less(NOUGHT, size_of(x)), x != (0, 0, 0, 0, 0))

    def test_number_times_its_mirror_stands_for_the_same(self):
        for x in self.numbers():
            whole_part, root_part = share_stands_for(size_of(x))
            self.assertTrue(
                stands_for(times(x, mirrored(x))) == (whole_part, root_part, Fraction(0), -root_part))
            self.check_share(size_of(x), (whole_part, root_part))

    def test_of_a_product(self):
        mixed = self.numbers()
        for i, x in enumerate(mixed):
            for y in (mixed[(5 * i + 1) % len(mixed)], mixed[0], mixed[1]):
                self.assertTrue(size_of(times(x, y)) == share_times(size_of(x), size_of(y)))

    def test_turned_mirrored_halved(self):
        for x in self.numbers():
            for e in range(8):
                self.assertTrue(size_of(turned(x, e)) == size_of(x))
            self.assertTrue(size_of(mirrored(x)) == size_of(x))
            self.assertTrue(size_of(halved(x)) == share_times(size_of(x), (1, 0, 1)))


class Telling(ShareCase):
    def test_the_same_is_told_alike(self):
        mixed = SOME + tuple(sampled(9, 10))
        for ask in (share_plus, share_times, share_less):
            first = [ask(x, y) for x in mixed for y in mixed]
            again = [ask(x, y) for x in mixed for y in mixed]
            self.assertTrue(first == again)

    def test_what_is_told_may_be_handed_in_again(self):
        x = size_of((MANY, -MOST, 1, 2, 400))
        for i in range(5):
            y = share_plus(share_times(x, x), (1, -1, 800))
            self.check_share(y, share_stands_for(y))
            self.assertIs(share_less(y, share_plus(y, (-1, 0, 800))), False)
            self.assertIs(share_less(y, share_plus(y, (1, 0, 800))), True)
            x = y

    def test_arguments_are_those_of_the_interface(self):
        told = (
            (share, "(p, q, k=0)"), (share_plus, "(x, y)"), (share_times, "(x, y)"), (share_less, "(x, y)"),
            (size_of, "(x)"))
        check_arguments(self, shares, told)


if __name__ == "__main__":
    unittest.main()
