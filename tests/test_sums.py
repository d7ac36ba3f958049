"""[5.1] to [5.6] Sums, sets of bits and their values, turns added, the sum of a circuit and its numbers."""

import itertools
import random
import unittest

from wavewires import sums
from wavewires.errors import TooGreat
from wavewires.runs import branches
from wavewires.sums import added, number_at, sum_of, value_of

from reckoning import (
    MOST, all_bits, any_circuit, any_set, any_sum, as_number, bits_in, check_arguments, check_told_alike, is_least,
    odd, plain_rows, settings_of, stands_for, sum_is_formed, ways_number)

O = (0, 0, 0, 0, 0)


def place(bits):
    return int("".join(map(str, bits)), 2)


def model_added(turn, turns, bits, e):
    """[5.4] with sets as frozensets and turns as a dict."""
    if 0 in bits:
        return model_added((turn + e) % 8, turns, bits - {0}, 8 - e)
    if not bits:
        return turn, turns
    told = dict(turns)
    told[bits] = (told.get(bits, 0) + e) % 8
    return turn, {s: k for s, k in told.items() if k}


def model_sum(circuit):
    """[5.5] word by word, with sets as frozensets."""
    wires, rows = circuit
    looks = sum(row[0] == "look" for row in rows)
    carried = [frozenset({1 + j}) for j in range(wires)]
    turn, turns, ties, hidden, halves, mark = 0, {}, [], [], 0, 0

    def sign(one, other):
        told = turn, turns
        for bits, e in ((one, 2), (other, 2), (one ^ other, 6)):
            told = model_added(*told, bits, e)
        return told

    for row in rows:
        kind = row[0]
        if kind == "swing":
            fresh = 2 * wires + 1 + looks + len(hidden)
            hidden.append(fresh)
            turn, turns = sign(carried[row[1]], frozenset({fresh}))
            carried[row[1]] = frozenset({fresh})
            halves += 1
        elif kind == "turn":
            turn, turns = model_added(turn, turns, carried[row[1]], row[2])
        elif kind == "flip":
            carried[row[1]] ^= {0}
        elif kind == "tie":
            carried[row[2]] = carried[row[1]] ^ carried[row[2]]
        elif kind == "sign":
            turn, turns = sign(carried[row[1]], carried[row[2]])
        elif kind == "cross":
            carried[row[1]], carried[row[2]] = carried[row[2]], carried[row[1]]
        elif kind == "look":
            ties.append(carried[row[1]] ^ {2 * wires + 1 + mark})
            mark += 1
        elif row[2][0] == "flip":
            carried[row[2][1]] ^= {2 * wires + 1 + row[1]}
        else:
            turn, turns = sign(frozenset({2 * wires + 1 + row[1]}), carried[row[2][1]])
    ties += [carried[j] ^ {wires + 1 + j} for j in range(wires)]
    return (
        (wires, looks), halves, turn, tuple(sorted((as_number(s), e) for s, e in turns.items())),
        tuple(sorted({as_number(tie) for tie in ties if tie})), tuple(hidden))


class Values(unittest.TestCase):
    def test_told_ones(self):
        told = (
            (0, 0, 0), (0, 7, 0), (7, 0, 0), (1, 1, 1), (1, 2, 0), (3, 3, 0), (3, 1, 1), (3, 2, 1), (7, 7, 1), (7, 5, 0),
            (6, 5, 1), (1 << 299, 1 << 299, 1), (1 << 299, 1 << 298, 0), ((1 << 300) - 1, (1 << 300) - 1, 0),
            ((1 << 300) - 1, (1 << 299) - 1, 1), ((1 << 299) + 1, (1 << 300) - 1, 0))
        for bitset, bits, value in told:
            self.assertEqual(value_of(bitset, bits), value)
            self.assertIs(type(value_of(bitset, bits)), int)

    def test_all_small_ones(self):
        for bitset in range(64):
            for bits in range(64):
                self.assertEqual(value_of(bitset, bits), odd(bitset, bits_in(bits)))

    def test_great_ones(self):
        chance = random.Random(1)
        for turn in range(200):
            bitset, bits = chance.getrandbits(300), chance.getrandbits(300)
            self.assertEqual(value_of(bitset, bits), odd(bitset, bits_in(bits)))


class Added(unittest.TestCase):
    def check_added(self, turn, turns, bitset, e):
        told = added(turn, turns, bitset, e)
        self.assertEqual((type(told), len(told), type(told[0]), type(told[1])), (tuple, 2, int, tuple))
        due, by_set = model_added(turn, {bits_in(s): k for s, k in turns}, bits_in(bitset), e)
        self.assertEqual(told, (due % 8, tuple(sorted((as_number(s), k) for s, k in by_set.items()))))
        self.assertEqual({type(pair) for pair in told[1]} | {tuple}, {tuple})
        return told

    def test_told_ones(self):
        told = (
            ((0, (), 0, 5), (0, ())), ((3, ((2, 1),), 0, 5), (3, ((2, 1),))), ((0, (), 2, 1), (0, ((2, 1),))),
            ((0, (), 2, 8), (0, ())), ((0, (), 2, 0), (0, ())), ((0, (), 2, 9), (0, ((2, 1),))),
            ((0, (), 2, -1), (0, ((2, 7),))), ((0, (), 1, 3), (3, ())), ((6, (), 1, 3), (1, ())), ((0, (), 1, -1), (7, ())),
            ((0, (), 3, 3), (3, ((2, 5),))), ((7, ((2, 3),), 3, 3), (2, ())), ((0, ((2, 5),), 2, 3), (0, ())),
            ((0, ((2, 5), (4, 1)), 2, 3), (0, ((4, 1),))), ((0, ((2, 5), (8, 1)), 4, 3), (0, ((2, 5), (4, 3), (8, 1)))),
            ((0, ((2, 5), (8, 1)), 16, 3), (0, ((2, 5), (8, 1), (16, 3)))), ((5, ((6, 1),), 6, 2), (5, ((6, 3),))),
            ((0, (), 3, 8), (0, ())), ((1, (), 2, -MOST), (1, ((2, -MOST % 8),))))
        for handed, due in told:
            self.assertEqual(added(*handed), due, handed)
            self.check_added(*handed)

    def test_any(self):
        chance = random.Random(2)
        for turn in range(400):
            one = any_sum(chance, (2, 1), 5, chance.choice((0, 3, 12)), 0)
            known = [s for s, e in one[3]] + [0, 1]
            bits = list(range(6)) + list(one[5])
            bitset = chance.choice([any_set(chance, bits), chance.choice(known), chance.choice(known) ^ 1])
            e = chance.choice((chance.randint(-20, 20), chance.randint(-MOST, MOST), 0, 8, 4))
            told = self.check_added(one[2], one[3], bitset, e)
            self.assertTrue(sum_is_formed(one[:2] + told + one[4:]))

    def test_multiplies_by_w_to_e_times_the_value(self):
        chance = random.Random(3)
        for turn in range(60):
            one = any_sum(chance, (2, 0), 0, 6, 0)
            bitset, e = chance.randrange(32), chance.randint(-9, 9)
            told = added(one[2], one[3], bitset, e)
            for setting in itertools.product((0, 1), repeat=4):
                bits = frozenset([0] + [k + 1 for k in range(4) if setting[k]])
                ahead = one[2] + sum(k * odd(s, bits) for s, k in one[3]) + e * odd(bitset, bits)
                self.assertEqual((told[0] + sum(k * odd(s, bits) for s, k in told[1]) - ahead) % 8, 0)


class SumsOfCircuits(unittest.TestCase):
    def test_told_ones(self):
        told = (
            ((1, ()), ((1, 0), 0, 0, (), (6,), ())),
            ((2, ()), ((2, 0), 0, 0, (), (10, 20), ())),
            ((1, (("flip", 0),)), ((1, 0), 0, 0, (), (7,), ())),
            ((1, (("flip", 0), ("flip", 0))), ((1, 0), 0, 0, (), (6,), ())),
            ((1, (("turn", 0, 3),)), ((1, 0), 0, 0, ((2, 3),), (6,), ())),
            ((1, (("flip", 0), ("turn", 0, 3))), ((1, 0), 0, 3, ((2, 5),), (7,), ())),
            ((1, (("turn", 0, 3), ("turn", 0, 5))), ((1, 0), 0, 0, (), (6,), ())),
            ((1, (("swing", 0),)), ((1, 0), 1, 0, ((2, 2), (8, 2), (10, 6)), (12,), (3,))),
            ((1, (("flip", 0), ("swing", 0))), ((1, 0), 1, 0, ((2, 6), (8, 2), (10, 2)), (12,), (3,))),
            ((1, (("swing", 0), ("swing", 0))), (
                (1, 0), 2, 0, ((2, 2), (8, 4), (10, 6), (16, 2), (24, 6)), (20,), (3, 4))),
            ((2, (("tie", 0, 1),)), ((2, 0), 0, 0, (), (10, 22), ())),
            ((2, (("tie", 1, 0),)), ((2, 0), 0, 0, (), (14, 20), ())),
            ((2, (("cross", 0, 1),)), ((2, 0), 0, 0, (), (12, 18), ())),
            ((2, (("sign", 0, 1),)), ((2, 0), 0, 0, ((2, 2), (4, 2), (6, 6)), (10, 20), ())),
            ((1, (("look", 0),)), ((1, 1), 0, 0, (), (6, 10), ())),
            ((1, (("look", 0), ("look", 0))), ((1, 2), 0, 0, (), (6, 10, 18), ())),
            ((1, (("look", 0), ("where", 0, ("flip", 0)))), ((1, 1), 0, 0, (), (10, 14), ())),
            ((1, (("look", 0), ("where", 0, ("turn", 0, 4)))), ((1, 1), 0, 0, ((2, 2), (8, 2), (10, 6)), (6, 10), ())),
            ((1, (("look", 0), ("swing", 0))), ((1, 1), 1, 0, ((2, 2), (16, 2), (18, 6)), (10, 20), (4,))))
        for circuit, due in told:
            self.assertEqual(sum_of(circuit), due, circuit)
            self.assertEqual(model_sum(circuit), due, circuit)

    def test_any(self):
        chance = random.Random(4)
        for turn in range(300):
            many = chance.choice((1, 6, 20, 60))
            circuit = any_circuit(chance, chance.randint(1, 6), many, chance.randint(0, min(6, many)))
            told = sum_of(circuit)
            self.assertEqual(told, model_sum(circuit))
            self.assertTrue(sum_is_formed(told))

    def test_each_row(self):
        chance = random.Random(5)
        for wires in (1, 2, 3, 6):
            ahead = any_circuit(chance, wires, 8, 2)[1]
            for row in plain_rows(wires) + [("look", 0), ("where", 1, ("flip", 0)), ("where", 0, ("turn", 0, 4))]:
                self.assertEqual(sum_of((wires, ahead + (row,))), model_sum((wires, ahead + (row,))))

    def test_sixty_swings(self):
        told = sum_of((6, tuple(("swing", k % 6) for k in range(54)) + (("look", 0),) * 6))
        self.assertEqual((told[0], told[1], told[5]), ((6, 6), 54, tuple(range(19, 73))))
        told = sum_of((1, (("swing", 0),) * 60))
        self.assertEqual((told[1], len(told[5]), told[5][-1]), (60, 60, 62))


class NumberCase(unittest.TestCase):
    def check_numbers(self, one, settings):
        for begin, marks, end in settings:
            told = number_at(one, place(begin), marks, place(end))
            self.assertEqual((type(told), [type(part) for part in told]), (tuple, [int] * 5))
            self.assertTrue(is_least(told))
            self.assertTrue(stands_for(told) == ways_number(one, begin, marks, end))


class Numbers(NumberCase):
    def test_told_ones(self):
        told = (
            (((1, 0), 0, 0, (), (), ()), (1, 0, 0, 0, 0)), (((1, 0), 1, 0, (), (), ()), (1, 0, 0, 0, 1)),
            (((1, 0), -1, 0, (), (), ()), (0, 1, 0, -1, 0)), (((1, 0), -2, 0, (), (), ()), (2, 0, 0, 0, 0)),
            (((1, 0), -3, 3, (), (), ()), (-2, 0, 2, 0, 0)), (((1, 0), 0, 5, (), (), ()), (0, -1, 0, 0, 0)),
            (((1, 0), 0, 0, (), (1,), ()), O), (((1, 0), 0, 0, (), (), (3,)), (2, 0, 0, 0, 0)),
            (((1, 0), 2, 0, (), (), (3,)), (1, 0, 0, 0, 0)), (((1, 0), 0, 0, (), (8,), (3,)), (1, 0, 0, 0, 0)),
            (((1, 0), 0, 0, ((8, 1),), (), (3,)), (1, 1, 0, 0, 0)), (((1, 0), 0, 0, ((8, 4),), (), (3,)), O),
            (((1, 0), 0, 0, ((8, 1),), (9,), (3,)), (0, 1, 0, 0, 0)), (((1, 0), 400, 0, (), (), ()), (1, 0, 0, 0, 400)),
            (((1, 0), -400, 0, (), (), ()), (1 << 200, 0, 0, 0, 0)), (((1, 0), 0, 0, ((8, 1),), (8, 9), (3,)), O))
        for one, due in told:
            self.assertEqual(number_at(one, 0, (), 0), due, one)

    def test_told_bits(self):
        one = ((2, 2), 0, 0, ((1 << 1, 1), (1 << 4, 2)), (1 << 2 | 1 << 5, 1 << 3 | 1 << 6), ())
        self.check_numbers(one, settings_of(one))
        self.assertEqual(number_at(one, 2, (0, 0), 0), (0, 1, 0, 0, 0))
        self.assertEqual(number_at(one, 3, (1, 1), 3), (0, 0, 0, 1, 0))
        self.assertEqual(number_at(one, 2, (0, 1), 2), (0, 1, 0, 0, 0))
        self.assertEqual(number_at(one, 0, (1, 0), 0), O)

    def test_any(self):
        chance = random.Random(6)
        for turn in range(120):
            shape = (chance.randint(1, 2), chance.randint(0, 2))
            one = any_sum(chance, shape, chance.randint(0, 5), chance.choice((0, 1, 4, 12)), chance.choice((0, 0, 1, 2, 3)))
            self.assertTrue(sum_is_formed(one))
            settings = settings_of(one)
            self.check_numbers(one, chance.sample(settings, min(8, len(settings))))

    def test_many_hidden_bits(self):
        chance = random.Random(7)
        for hidden, turns, ties in ((10, 40, 2), (12, 12, 3), (12, 5, 0)):
            one = any_sum(chance, (2, 1), hidden, turns, ties)
            self.check_numbers(one, chance.sample(settings_of(one), 1))

    def test_many_turns_and_ties(self):
        chance = random.Random(8)
        one = any_sum(chance, (6, 6), 12, 400, 0)
        told = number_at(one, 63, (1,) * 6, 21)
        self.assertTrue(is_least(told))
        nought = one[:4] + (tuple(range(1, 81)),) + one[5:]
        self.assertEqual(number_at(nought, 63, (1,) * 6, 21), O)

    def test_more_than_twelve_hidden_bits_are_refused(self):
        for hidden in (13, 14, 60):
            for ties in ((), (1,), (8,)):
                one = ((1, 0), 0, 0, (), ties, tuple(range(3, 3 + hidden)))
                with self.assertRaises(TooGreat) as taken:
                    number_at(one, 0, (), 0)
                self.assertIs(type(taken.exception), TooGreat)
        self.assertEqual(number_at(((1, 0), 24, 0, (), (), tuple(range(3, 15))), 0, (), 0), (1, 0, 0, 0, 0))
        self.assertEqual(number_at(((1, 0), 0, 0, (), (), tuple(range(288, 300))), 0, (), 0), (4096, 0, 0, 0, 0))

    def test_the_set_of_bit_nought_alone_makes_all_nought(self):
        chance = random.Random(9)
        for turn in range(20):
            one = any_sum(chance, (2, 0), 4, 5, 2)
            one = one[:4] + (tuple(sorted({1} | set(one[4]))),) + one[5:]
            for begin in range(4):
                for end in range(4):
                    self.assertEqual(number_at(one, begin, (), end), O)


class NumbersOfCircuits(unittest.TestCase):
    def check_circuit(self, circuit):
        wires = circuit[0]
        one = sum_of(circuit)
        looks = one[0][1]
        for begin in range(2 ** wires):
            found = dict(branches(circuit, begin))
            for marks in all_bits(looks):
                state = found.get(marks, (O,) * 2 ** wires)
                self.assertEqual(tuple(number_at(one, begin, marks, end) for end in range(2 ** wires)), state)

    def test_each_row(self):
        chance = random.Random(10)
        for wires in (1, 2, 3):
            ahead = any_circuit(chance, wires, 4, 1)[1]
            for row in plain_rows(wires) + [("look", 0), ("where", 0, ("flip", 0)), ("where", 0, ("turn", 0, 4))]:
                self.check_circuit((wires, ahead + (row, ("swing", 0), row)))

    def test_any(self):
        chance = random.Random(11)
        seen = 0
        while seen < 80:
            many = chance.choice((3, 8, 16))
            circuit = any_circuit(chance, chance.randint(1, 3), many, chance.randint(0, 3))
            if sum(row[0] == "swing" for row in circuit[1]) <= 8:
                self.check_circuit(circuit)
                seen += 1

    def test_without_swings(self):
        chance = random.Random(12)
        rows = [row for row in plain_rows(4) if row[0] != "swing"]
        for turn in range(5):
            circuit = tuple(row for row in any_circuit(chance, 4, 40, 2, rows)[1] if row[0] != "swing")
            self.check_circuit((4, circuit))

    def test_twelve_swings(self):
        circuit = (2, (("swing", 0), ("turn", 0, 1), ("tie", 0, 1), ("swing", 1), ("turn", 1, 3), ("look", 0)) * 6)
        one = sum_of(circuit)
        self.assertEqual(len(one[5]), 12)
        for marks, state in branches(circuit, 2)[:3]:
            self.assertEqual(tuple(number_at(one, 2, marks, end) for end in range(4)), state)


class Telling(unittest.TestCase):
    def test_what_was_handed_in_stays_and_the_same_is_told_alike(self):
        chance = random.Random(13)
        circuit = any_circuit(chance, 2, 12, 2)
        one = any_sum(chance, (2, 1), 5, 9, 2)
        asks = (
            (value_of, (12, 5)), (added, (one[2], one[3], one[3][0][0], 3)), (sum_of, (circuit,)),
            (number_at, (one, 1, (1,), 2)))
        check_told_alike(self, asks)

    def test_arguments_are_those_of_the_interface(self):
        told = (
            (value_of, "(bitset, bits)"), (added, "(turn, turns, bitset, e)"), (sum_of, "(circuit)"),
            (number_at, "(one, begin, marks, end)"))
        check_arguments(self, sums, told)


if __name__ == "__main__":
    unittest.main()
