"""States: tuples of numbers, one for each place of some wires; and what plain rows make of them."""

from wavewires.errors import HasLooks
from wavewires.ring import NOUGHT, ONE, against, halved, mirrored, plus, times, turned
from wavewires.shares import share_plus, size_of

PLAIN = ("swing", "turn", "flip", "tie", "sign", "cross")


def worth(wires, wire):
    return 1 << (wires - 1 - wire)


def place_of(bits):
    place = 0
    for bit in bits:
        place = 2 * place + bit
    return place


def bits_of(wires, place):
    return tuple([(place >> (wires - 1 - wire)) & 1 for wire in range(wires)])


def beginning(wires, place=0):
    return tuple([ONE if p == place else NOUGHT for p in range(1 << wires)])


def swung(state, bit):
    told = []
    for p in range(len(state)):
        if p & bit == 0:
            told.append(halved(plus(state[p], state[p ^ bit])))
        else:
            told.append(halved(plus(state[p ^ bit], against(state[p]))))
    return tuple(told)


def turned_where(state, held, e):
    # Put against nought is turned by 4, so turn and sign are this one deed.
    return tuple([turned(state[p], e) if p & held == held else state[p] for p in range(len(state))])


def flipped_where(state, held, bit):
    return tuple([state[p ^ bit] if p & held == held else state[p] for p in range(len(state))])


def exchanged(place, both):
    # Where just one of both bits is 1 they are exchanged by changing both.
    return place if place & both in (0, both) else place ^ both


def done(state, row):
    wires = len(state).bit_length() - 1
    first = worth(wires, row[1])
    if row[0] == "swing":
        return swung(state, first)
    if row[0] == "turn":
        return turned_where(state, first, row[2])
    if row[0] == "flip":
        return flipped_where(state, 0, first)
    second = worth(wires, row[2])
    if row[0] == "tie":
        return flipped_where(state, first, second)
    if row[0] == "sign":
        return turned_where(state, first | second, 4)
    return tuple([state[exchanged(p, first | second)] for p in range(len(state))])


def all_done(state, rows):
    for row in rows:
        state = done(state, row)
    return state


def whole(state):
    told = (0, 0, 0)
    for x in state:
        told = share_plus(told, size_of(x))
    return told


def inner(one, other):
    told = NOUGHT
    for p in range(len(one)):
        told = plus(told, times(mirrored(one[p]), other[p]))
    return told


def all_plain(rows):
    return all([row[0] in PLAIN for row in rows])


def column(circuit, place):
    if not all_plain(circuit[1]):
        raise HasLooks("a circuit with looks has no columns")
    return all_done(beginning(circuit[0], place), circuit[1])
