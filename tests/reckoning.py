"""What the tests reckon with: numbers and shares as plain fractions, apart from the program's own ways."""

import copy
import functools
import inspect
import itertools
import random
from fractions import Fraction
from math import isqrt

MANY = 10 ** 299 + 7  # 300 figures
MOST = 10 ** 300 - 1


def product(s, t):
    sums = [Fraction(0)] * 4
    for i, j in itertools.product(range(4), range(4)):
        sums[(i + j) % 4] += s[i] * t[j] * (-1 if i + j > 3 else 1)
    return tuple(sums)


def added_up(s, t):
    return tuple(i + j for i, j in zip(s, t))


ONE_BY_ROOT = (Fraction(0), Fraction(1, 2), Fraction(0), Fraction(-1, 2))


def stands_for(x):
    """The number x as four fractions, those of 1, w, w**2 and w**3."""
    a, b, c, d, k = x
    scaled = tuple(Fraction(part, 1 << (k // 2)) for part in (a, b, c, d))
    return product(scaled, ONE_BY_ROOT) if k % 2 else scaled


def share_stands_for(x):
    """The share x as two fractions, the whole part and the root's."""
    p, q, k = x
    return (Fraction(p, 1 << k), Fraction(q, 1 << k))


def sign_of(p, q):
    """The sign of p + q*r for fractions p and q, by closer and closer bounds of r."""
    if p == 0 and q == 0:
        return 0
    bits = 8
    while True:
        low = Fraction(isqrt(2 << (2 * bits)), 1 << bits)
        high = low + Fraction(1, 1 << bits)
        ends = sorted([p + q * low, p + q * high])
        if ends[0] > 0:
            return 1
        if ends[1] < 0:
            return -1
        bits *= 2


def is_least(x):
    a, b, c, d, k = x
    return k == 0 or (k > 0 and ((a - c) % 2 == 1 or (b - d) % 2 == 1))


def share_is_least(x):
    p, q, k = x
    return k == 0 or (k > 0 and (p % 2 == 1 or q % 2 == 1))


def raw_parts(seed, many, parts, ks):
    """Parts, small, great, of shared twos, below nought, each time with one of the ks behind them."""
    chance = random.Random(seed)
    told = []
    for i in range(many):
        bound = chance.choice((1, 3, 40, 10 ** 9, MOST))
        shift = chance.choice((0, 0, 1, 2, 7)) if bound < MOST else 0
        told.append(tuple(chance.randint(-bound, bound) << shift for j in range(parts)) + (chance.choice(ks),))
    return told


def raw_numbers(seed, many):
    return raw_parts(seed, many, 4, (0, 1, 2, 3, 8, 199, 399, 400))


def raw_shares(seed, many):
    return raw_parts(seed, many, 2, (0, 1, 2, 3, 8, 399, 799, 800))


def turn_parts(e):
    """w**e as four fractions."""
    parts = [Fraction(0)] * 4
    parts[e % 4] = Fraction(-1 if e % 8 > 3 else 1)
    return tuple(parts)


def all_bits(wires):
    """The rows of bits of some wires, in the order of their places."""
    return list(itertools.product((0, 1), repeat=wires))


def with_bit(bits, wire, bit):
    return bits[:wire] + (bit,) + bits[wire + 1:]


def goes_to(row, bits):
    """What a plain row makes of one at a row of bits: pairs of bits and a number as four fractions."""
    kind, wire = row[:2]
    if kind == "swing":
        minus = (Fraction(0), Fraction(-1, 2), Fraction(0), Fraction(1, 2))
        return [(with_bit(bits, wire, 0), ONE_BY_ROOT), (with_bit(bits, wire, 1), minus if bits[wire] else ONE_BY_ROOT)]
    if kind == "turn":
        return [(bits, turn_parts(row[2] if bits[wire] else 0))]
    if kind == "flip":
        return [(with_bit(bits, wire, 1 - bits[wire]), turn_parts(0))]
    other = row[2]
    if kind == "tie":
        return [(with_bit(bits, other, (bits[wire] + bits[other]) % 2), turn_parts(0))]
    if kind == "sign":
        return [(bits, turn_parts(4 * bits[wire] * bits[other]))]
    return [(with_bit(with_bit(bits, wire, bits[other]), other, bits[wire]), turn_parts(0))]


def model_done(model, row):
    """A plain row done to a model: a dict of the numbers, as four fractions, other than nought by their bits."""
    told = {}
    for bits, parts in model.items():
        for further, factor in goes_to(row, bits):
            told[further] = added_up(told.get(further, (0,) * 4), product(parts, factor))
    return {bits: parts for bits, parts in told.items() if any(parts)}


def model_of(state):
    bits = all_bits(len(state).bit_length() - 1)
    return {row: stands_for(x) for row, x in zip(bits, state) if any(x)}


def model_branches(circuit, bits):
    """The pairs (marks, model) of a run, each row of marks gone through by itself."""
    wires, rows = circuit
    looks = sum(row[0] == "look" for row in rows)
    told = []
    for marks in itertools.product((0, 1), repeat=looks):
        model = {bits: turn_parts(0)}
        ahead = 0
        for row in rows:
            if row[0] == "look":
                model = {b: parts for b, parts in model.items() if b[row[1]] == marks[ahead]}
                ahead += 1
            elif row[0] != "where":
                model = model_done(model, row)
            elif marks[row[1]]:
                model = model_done(model, row[2])
        if model:
            told.append((marks, model))
    return told


@functools.lru_cache(1000)
def model_columns(circuit):
    """The models of all columns of a plain circuit, in the order of their places."""
    return [model_branches(circuit, bits)[0][1] for bits in all_bits(circuit[0])]


def model_turn(one, other):
    """The turn between two plain circuits, or None, by the words of [9.1]."""
    firsts, seconds = model_columns(one), model_columns(other)
    for e in range(8):
        if [{bits: product(x, turn_parts(e)) for bits, x in first.items()} for first in firsts] == seconds:
            return e
    return None


def plain_rows(wires):
    """All plain rows over some wires."""
    told = [(kind, j) for kind in ("swing", "flip") for j in range(wires)]
    told += [("turn", j, e) for j in range(wires) for e in range(1, 8)]
    pairs = list(itertools.permutations(range(wires), 2))
    return told + [(kind,) + pair for kind in ("tie", "sign", "cross") for pair in pairs]


def even_rows(wires):
    """All plain rows over some wires but odd turns."""
    return [row for row in plain_rows(wires) if row[0] != "turn" or row[2] % 2 == 0]


def any_circuit(chance, wires, many, looks=0, rows=None):
    """A circuit of many rows with as many looks as told, and where rows behind the first of them."""
    rows = rows or plain_rows(wires)
    looked = sorted(chance.sample(range(many), looks))
    told = []
    for k in range(many):
        ahead = sum(row[0] == "look" for row in told)
        wire = chance.randrange(wires)
        if k in looked:
            told.append(("look", wire))
        elif ahead and chance.random() < 0.25:
            told.append(("where", chance.randrange(ahead), chance.choice((("flip", wire), ("turn", wire, 4)))))
        else:
            told.append(chance.choice([("swing", wire), chance.choice(rows), chance.choice(rows)]))
    return (wires, tuple(told))


def repeating_circuit(chance, wires, many, looks=0, rows=None):
    """A circuit of rows picked from few, so that many of them can be taken out or joined."""
    few = chance.sample(rows or plain_rows(wires), min(5, wires + 3)) + [("swing", chance.randrange(wires))] * 2
    told = list(any_circuit(chance, wires, many, looks, few)[1])
    for k in range(1, many):
        wheres = [row for row in told[:k] if row[0] == "where"]
        if told[k][0] == "where" and wheres and chance.random() < 0.7:
            told[k] = chance.choice(wheres)
    return (wires, tuple(told))


def any_state(chance, wires):
    """A state of numbers great and small, some of them nought."""
    raws = raw_parts(chance.random(), 1 << wires, 4, (0, 1, 2, 3, 8, 199, 200))
    return tuple((0,) * 5 if chance.random() < 0.2 else least(raw) for raw in raws)


def least(raw):
    """The least form of raw parts, by one r after another."""
    a, b, c, d, k = raw
    while k and (a - c) % 2 == 0 and (b - d) % 2 == 0:
        a, b, c, d, k = (b - d) // 2, (a + c) // 2, (b + d) // 2, (c - a) // 2, k - 1
    return (a, b, c, d, k)


@functools.lru_cache(100000)
def bits_in(bitset):
    """A set of bits as a frozenset of their numbers."""
    return frozenset(k for k in range(bitset.bit_length()) if bitset >> k & 1)


def as_number(bits):
    return sum(1 << k for k in bits)


def odd(bitset, setting):
    return len(bits_in(bitset) & setting) % 2


def ways_number(one, begin, marks, end):
    """The number of a sum as four fractions, by the words of [5.3]; begin and end as rows of bits."""
    (wires, looks), halves, turn, turns, ties, hidden = one
    told = [0] + [k + 1 for k, bit in enumerate(begin + end + marks) if bit]
    total = (Fraction(0),) * 4
    for way in itertools.product((0, 1), repeat=len(hidden)):
        setting = frozenset(told) | {bit for bit, taken in zip(hidden, way) if taken}
        if not any(odd(tie, setting) for tie in ties):
            total = added_up(total, turn_parts(sum(e * odd(bitset, setting) for bitset, e in turns)))
    for k in range(abs(halves) % 2):
        total = product(total, ONE_BY_ROOT if halves > 0 else (0, 1, 0, -1))
    scale = Fraction(2) ** (abs(halves) // 2)
    total = tuple(part / scale if halves > 0 else part * scale for part in total)
    return product(total, turn_parts(turn))


def settings_of(one):
    """All (begin, marks, end) of a sum, as rows of bits."""
    wires, looks = one[0]
    return list(itertools.product(all_bits(wires), all_bits(looks), all_bits(wires)))


def sum_is_formed(one):
    """Whether it is of the form that [5.2] tells."""
    if type(one) is not tuple or len(one) != 6 or any(type(part) is not tuple for part in (one[0],) + one[3:]):
        return False
    (wires, looks), halves, turn, turns, ties, hidden = one
    ints = [wires, looks, halves, turn] + list(ties) + list(hidden) + [part for pair in turns for part in pair]
    if any(type(whole) is not int for whole in ints) or any(type(pair) is not tuple for pair in turns):
        return False
    bits = frozenset(range(2 * wires + looks + 1)) | frozenset(hidden)
    sets = [pair[0] for pair in turns]
    rising = all(list(row) == sorted(set(row)) for row in (sets, ties, hidden))
    known = all(s > 0 and bits_in(s) <= bits for s in sets + list(ties))
    fair = all(s % 2 == 0 for s in sets) and all(1 <= e <= 7 for s, e in turns)
    return rising and known and fair and 0 <= turn <= 7 and all(b > 2 * wires + looks for b in hidden)


def any_set(chance, bits, share=0.4):
    """A set of some of the bits that is not empty."""
    told = as_number(bit for bit in bits if chance.random() < share)
    return told or 1 << chance.choice(bits)


def any_sum(chance, shape, hidden, turns, ties, es=(1, 2, 3, 4, 5, 6, 7)):
    """A sum with so many hidden bits, and at most so many turns and ties."""
    first = 2 * shape[0] + 1 + shape[1]
    hid = sorted(chance.sample(range(first, chance.choice((first + hidden, 300))), hidden))
    bits = list(range(1, first)) + hid
    by_set = {any_set(chance, bits): chance.choice(es) for k in range(turns)}
    tied = sorted({any_set(chance, [0] + bits, chance.choice((0.1, 0.4))) for k in range(ties)})
    halves = chance.choice((0, 1, 2, 5, -1, -3, 400, -400, 399, -399))
    return (shape, halves, chance.randrange(8), tuple(sorted(by_set.items())), tuple(tied), tuple(hid))


def any_word(chance, wires):
    return (chance.randrange(2 ** wires), chance.randrange(2 ** wires), chance.randrange(4))


def against_each_other(one, other):
    """Whether two words do not agree: by how many wires the one flips and the other signs."""
    return (len(bits_in(one[0] & other[1])) + len(bits_in(one[1] & other[0]))) % 2 == 1


def straight(word):
    return (word[2] + len(bits_in(word[0] & word[1]))) % 2 == 0


def is_table(table, wires):
    """Whether it is of the form and the kinds that [8.1] tells."""
    if type(table) is not tuple or len(table) != wires:
        return False
    if any(type(pair) is not tuple or len(pair) != 2 for pair in table):
        return False
    words = [word for pair in table for word in pair]
    if any(type(word) is not tuple or [type(part) for part in word] != [int] * 3 for word in words):
        return False
    if any(not (0 <= x < 2 ** wires and 0 <= z < 2 ** wires and 0 <= s < 4) for x, z, s in words):
        return False
    keepers = [keeper for helper, keeper in table]
    apart = [[against_each_other(word, keeper) for keeper in keepers] for word in keepers]
    helped = [[against_each_other(helper, keeper) for keeper in keepers] for helper, beside in table]
    alone = [[i == j for j in range(wires)] for i in range(wires)]
    return all(straight(word) for word in keepers) and not any(map(any, apart)) and helped == alone


def any_table(chance, wires):
    """Any table: keepers and helpers are picked until they fit, helpers whether or not they agree with each other."""
    keepers, reached = [], {(0, 0)}
    while len(keepers) < wires:
        word = any_word(chance, wires)
        if straight(word) and word[:2] not in reached and not any(against_each_other(word, k) for k in keepers):
            keepers.append(word)
            reached |= {(x ^ word[0], z ^ word[1]) for x, z in reached}
    helpers = []
    while len(helpers) < wires:
        word = any_word(chance, wires)
        if [against_each_other(word, keeper) for keeper in keepers] == [k == len(helpers) for k in range(wires)]:
            helpers.append(word)
    return tuple(zip(helpers, keepers))


def check_told_alike(case, asks):
    """Each ask (function, what is handed in) leaves what is handed in as it was, and is told alike again."""
    for ask, handed in asks:
        kept = copy.deepcopy(handed)
        first = ask(*handed)
        case.assertTrue(handed == kept, ask)
        case.assertTrue(ask(*handed) == first, ask)


def check_arguments(case, module, told):
    """Each function is there under its name, with its arguments."""
    for ask, arguments in told:
        case.assertEqual(str(inspect.signature(ask)), arguments)
        case.assertIs(getattr(module, ask.__name__), ask)
