"""Numbers: tuples (a, b, c, d, k) for (a + b*w + c*w**2 + d*w**3) / r**k, in least form.

w is the eighth turn, w**4 is -1; r is root two, w - w**3.
"""

NOUGHT = (0, 0, 0, 0, 0)
ONE = (1, 0, 0, 0, 0)


def twos_shared(joined, most):
    # Or-ed together, whole numbers have as many noughts at their low end as twos divide them all,
    # also below nought. Nought is divided without end, so only `most` bounds it.
    if joined == 0:
        return most
    return min(most, (joined & -joined).bit_length() - 1)


def by_root(a, b, c, d):
    return (b - d, a + c, b + d, c - a)


def number(a, b, c, d, k=0):
    # Two is r times r. Once the shared twos are out, at most one r is left to take out.
    twos = twos_shared(a | b | c | d, k // 2)
    a = a >> twos
    b = b >> twos
    c = c >> twos
    d = d >> twos
    k = k - 2 * twos
    if k == 0 or (a - c) % 2 == 1 or (b - d) % 2 == 1:
        return (a, b, c, d, k)
    # Divided by r is multiplied by r and divided by two.
    doubled = by_root(a, b, c, d)
    return (doubled[0] // 2, doubled[1] // 2, doubled[2] // 2, doubled[3] // 2, k - 1)


def parts_over(x, k):
    # The four parts of x when it is written over r**k; k is not below the k of x.
    more = k - x[4]
    twos = more // 2
    a = x[0] << twos
    b = x[1] << twos
    c = x[2] << twos
    d = x[3] << twos
    if more % 2 == 1:
        return by_root(a, b, c, d)
    return (a, b, c, d)


def plus(x, y):
    k = max(x[4], y[4])
    s = parts_over(x, k)
    t = parts_over(y, k)
    return number(s[0] + t[0], s[1] + t[1], s[2] + t[2], s[3] + t[3], k)


def times(x, y):
    # What comes to w**4 and beyond is put against nought and counted from w**0 again.
    return number(
        x[0] * y[0] - x[1] * y[3] - x[2] * y[2] - x[3] * y[1],
        x[0] * y[1] + x[1] * y[0] - x[2] * y[3] - x[3] * y[2],
        x[0] * y[2] + x[1] * y[1] + x[2] * y[0] - x[3] * y[3],
        x[0] * y[3] + x[1] * y[2] + x[2] * y[1] + x[3] * y[0],
        x[4] + y[4],
    )


# The next three only move parts or change their signs: a and c stay a pair, and b and d,
# so that what was in least form still is.


def against(x):
    return (-x[0], -x[1], -x[2], -x[3], x[4])


def turned(x, e):
    around = (x[0], x[1], x[2], x[3], -x[0], -x[1], -x[2], -x[3])
    return (around[(0 - e) % 8], around[(1 - e) % 8], around[(2 - e) % 8], around[(3 - e) % 8], x[4])


def mirrored(x):
    # w**7 is -w**3, w**14 is -w**2, w**21 is -w.
    return (x[0], -x[3], -x[2], -x[1], x[4])


def halved(x):
    return number(x[0], x[1], x[2], x[3], x[4] + 1)


def turn_of(x):
    for e in range(8):
        if x == turned(ONE, e):
            return e
    return None
