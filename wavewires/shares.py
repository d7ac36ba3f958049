"""Shares: tuples (p, q, k) for (p + q*r) / 2**k, in least form; and the sizes of numbers."""

from wavewires.ring import twos_shared


def share(p, q, k=0):
    twos = twos_shared(p | q, k)
    return (p >> twos, q >> twos, k - twos)


def parts_over(x, k):
    # The two parts of x when it is written over 2**k; k is not below the k of x.
    more = k - x[2]
    return (x[0] << more, x[1] << more)


def share_plus(x, y):
    k = max(x[2], y[2])
    s = parts_over(x, k)
    t = parts_over(y, k)
    return share(s[0] + t[0], s[1] + t[1], k)


def share_times(x, y):
    return share(x[0] * y[0] + 2 * x[1] * y[1], x[0] * y[1] + x[1] * y[0], x[2] + y[2])


def below_nought(p, q):
    # Where the parts stand against each other the greater square decides;
    # the squares p*p and 2*q*q are alike only where both parts are nought.
    if p <= 0 and q <= 0:
        return p < 0 or q < 0
    if p >= 0 and q >= 0:
        return False
    if p < 0:
        return p * p > 2 * q * q
    return p * p < 2 * q * q


def share_less(x, y):
    k = max(x[2], y[2])
    s = parts_over(x, k)
    t = parts_over(y, k)
    return below_nought(s[0] - t[0], s[1] - t[1])


def size_of(x):
    # Of the number times its mirror w**2 falls out, and w and w**3 come to a multiple of r;
    # r**k times r**k is 2**k.
    whole_part = x[0] * x[0] + x[1] * x[1] + x[2] * x[2] + x[3] * x[3]
    root_part = x[0] * x[1] + x[1] * x[2] + x[2] * x[3] - x[3] * x[0]
    return share(whole_part, root_part, x[4])
