"""Sums over ways: tuples (shape, halves, turn, turns, ties, hidden) that tell the numbers of circuits.

A set of bits is a whole number, the sum of 1 << bit; bit 0 is always 1.
"""

from wavewires.circuits import looks_in
from wavewires.errors import TooGreat
from wavewires.ring import number, parts_over, turned
from wavewires.states import bits_of

MOST_HIDDEN = 12


def value_of(bitset, bits):
    shared = bitset & bits
    value = 0
    while shared != 0:
        # This takes the least bit out.
        shared = shared & (shared - 1)
        value = 1 - value
    return value


def all_added(turn, turns, pairs):
    by_set = dict(turns)
    for pair in pairs:
        bitset = pair[0]
        e = pair[1]
        if bitset & 1 == 1:
            # With bit 0 the value is one less that of the rest.
            turn = turn + e
            bitset = bitset ^ 1
            e = -e
        if bitset != 0:
            by_set[bitset] = (by_set.get(bitset, 0) + e) % 8
    return (turn % 8, tuple([pair for pair in sorted(by_set.items()) if pair[1] != 0]))


def added(turn, turns, bitset, e):
    return all_added(turn, turns, [(bitset, e)])


def signed(one, other):
    return [(one, 2), (other, 2), (one ^ other, 6)]


def ties_in_order(ties):
    return tuple([tie for tie in sorted(set(ties)) if tie != 0])


class Ways:
    # What a circuit's sum is made of, row by row. The pairs (set, e) are added up only at the end:
    # their order does not count.

    def __init__(self, wires, looks):
        self.carried = [1 << (1 + wire) for wire in range(wires)]
        self.pairs = []
        self.ties = []
        self.hidden = []
        self.first_mark = 2 * wires + 1
        self.first_hidden = 2 * wires + 1 + looks
        self.looked = 0

    def flip(self, wire, bitset):
        self.carried[wire] = self.carried[wire] ^ bitset

    def sign(self, one, other):
        self.pairs.extend(signed(one, other))

    def swing(self, wire):
        bit = self.first_hidden + len(self.hidden)
        self.hidden.append(bit)
        self.sign(self.carried[wire], 1 << bit)
        self.carried[wire] = 1 << bit

    def cross(self, one, other):
        kept = self.carried[one]
        self.carried[one] = self.carried[other]
        self.carried[other] = kept

    def mark_set(self, mark):
        return 1 << (self.first_mark + mark)

    def look(self, wire):
        self.ties.append(self.carried[wire] ^ self.mark_set(self.looked))
        self.looked = self.looked + 1

    def where(self, mark, row):
        if row[0] == "flip":
            self.flip(row[1], self.mark_set(mark))
        else:
            self.sign(self.mark_set(mark), self.carried[row[1]])

    def go(self, row):
        if row[0] == "swing":
            self.swing(row[1])
        elif row[0] == "turn":
            self.pairs.append((self.carried[row[1]], row[2]))
        elif row[0] == "flip":
            self.flip(row[1], 1)
        elif row[0] == "tie":
            self.flip(row[2], self.carried[row[1]])
        elif row[0] == "sign":
            self.sign(self.carried[row[1]], self.carried[row[2]])
        elif row[0] == "cross":
            self.cross(row[1], row[2])
        elif row[0] == "look":
            self.look(row[1])
        else:
            self.where(row[1], row[2])


def sum_of(circuit):
    wires = circuit[0]
    looks = looks_in(circuit)
    ways = Ways(wires, looks)
    for row in circuit[1]:
        ways.go(row)
    ends = [ways.carried[wire] ^ (1 << (wires + 1 + wire)) for wire in range(wires)]
    both = all_added(0, (), ways.pairs)
    return ((wires, looks), len(ways.hidden), both[0], both[1], ties_in_order(ways.ties + ends), tuple(ways.hidden))


def told_set(wires, begin, marks, end):
    # In the order in which the bits are counted.
    bits = (1,) + bits_of(wires, begin) + bits_of(wires, end) + marks
    return sum([bits[k] << k for k in range(len(bits))])


def hidden_place(bitset, hidden):
    return sum([((bitset >> hidden[k]) & 1) << k for k in range(len(hidden))])


def differences(weights):
    # Weights stand at sets of few bits, counted as places. At each way to set these bits comes what stands
    # at sets of the value 0, less what stands at sets of the value 1. The greatest bit, where it is set,
    # only makes the sets that have it change sides: so the ways need not be gone through one by one.
    if len(weights) == 1:
        return weights
    half = len(weights) // 2
    without = differences(weights[:half])
    within = differences(weights[half:])
    pairs = list(zip(without, within))
    return [pair[0] + pair[1] for pair in pairs] + [pair[0] - pair[1] for pair in pairs]


def summed_up(pairs, told, hidden):
    # For each way to set the hidden bits: the sum of e times the set's value over all pairs.
    fixed = 0
    weights = [0] * (1 << len(hidden))
    for pair in pairs:
        place = hidden_place(pair[0], hidden)
        if value_of(pair[0], told) == 0:
            weights[place] = weights[place] + pair[1]
        else:
            fixed = fixed + pair[1]
            weights[place] = weights[place] - pair[1]
    # Where no bit is set all values are 0, so that the first difference is all weights together.
    apart = differences(weights)
    return [fixed + (apart[0] - difference) // 2 for difference in apart]


def by_halves(x, halves):
    if halves < 0:
        return parts_over(x, -halves) + (0,)
    return number(x[0], x[1], x[2], x[3], halves)


def number_at(one, begin, marks, end):
    hidden = one[5]
    if len(hidden) > MOST_HIDDEN:
        raise TooGreat("too many bits are hidden")
    told = told_set(one[0][0], begin, marks, end)
    turns = summed_up(one[3], told, hidden)
    broken = summed_up([(tie, 1) for tie in one[4]], told, hidden)
    ways = [0] * 8
    for k in range(len(turns)):
        if broken[k] == 0:
            ways[turns[k] % 8] = ways[turns[k] % 8] + 1
    x = (ways[0] - ways[4], ways[1] - ways[5], ways[2] - ways[6], ways[3] - ways[7], 0)
    return by_halves(turned(x, one[2]), one[1])
