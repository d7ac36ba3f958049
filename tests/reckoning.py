"""What the tests reckon with: numbers and shares as plain fractions, apart from the program's own ways."""

import itertools
import random
from fractions import Fraction
from math import isqrt

MANY = 10 ** 299 + 7  # 300 figures
MOST = 10 ** 300 - 1


def product(s, t):
    sums = [Fraction(0)] * 4
    for i, j in itertools.product(range(4), range(4)):
        sums[(i + j) % 4] += s[i] * t[j] * (-1 if i + j > 3 else 1)
    return tuple(sums)


def added_up(s, t):
    return tuple(i + j for i, j in zip(s, t))


ONE_BY_ROOT = (Fraction(0), Fraction(1, 2), Fraction(0), Fraction(-1, 2))


def stands_for(x):
    """The number x as four fractions, those of 1, w, w**2 and w**3."""
    a, b, c, d, k = x
    scaled = tuple(Fraction(part, 1 << (k // 2)) for part in (a, b, c, d))
    return product(scaled, ONE_BY_ROOT) if k % 2 else scaled


def share_stands_for(x):
    """The share x as two fractions, the whole part and the root's."""
    p, q, k = x
    return (Fraction(p, 1 << k), Fraction(q, 1 << k))


def sign_of(p, q):
    """The sign of p + q*r for fractions p and q, by closer and closer bounds of r."""
    if p == 0 and q == 0:
        return 0
    bits = 8
    while True:
        low = Fraction(isqrt(2 << (2 * bits)), 1 << bits)
        high = low + Fraction(1, 1 << bits)
        ends = sorted([p + q * low, p + q * high])
        if ends[0] > 0:
            return 1
        if ends[1] < 0:
            return -1
        bits *= 2


def is_least(x):
    a, b, c, d, k = x
    return k == 0 or (k > 0 and ((a - c) % 2 == 1 or (b - d) % 2 == 1))


def share_is_least(x):
    p, q, k = x
    return k == 0 or (k > 0 and (p % 2 == 1 or q % 2 == 1))


def raw_parts(seed, many, parts, ks):
    """Parts, small, great, of shared twos, below nought, each time with one of the ks behind them."""
    chance = random.Random(seed)
    told = []
    for i in range(many):
        bound = chance.choice((1, 3, 40, 10 ** 9, MOST))
        shift = chance.choice((0, 0, 1, 2, 7)) if bound < MOST else 0
        told.append(tuple(chance.randint(-bound, bound) << shift for j in range(parts)) + (chance.choice(ks),))
    return told


def raw_numbers(seed, many):
    return raw_parts(seed, many, 4, (0, 1, 2, 3, 8, 199, 399, 400))


def raw_shares(seed, many):
    return raw_parts(seed, many, 2, (0, 1, 2, 3, 8, 399, 799, 800))
