"""[7.1] to [7.3] Words: their products, done to states and carried through rows."""

import itertools
import random
import unittest

from wavewires import words
from wavewires.errors import OddTurn
from wavewires.ring import number
from wavewires.states import done
from wavewires.words import agree, carried, is_straight, word_done, word_times

from reckoning import (
    all_bits, any_state, any_word, check_arguments, check_told_alike, is_least, model_of, plain_rows, product,
    turn_parts)

O = (0, 0, 0, 0, 0)
I = (1, 0, 0, 0, 0)
M = (-1, 0, 0, 0, 0)
NOTHING = (0, 0, 0)


def all_words(wires):
    return list(itertools.product(range(2 ** wires), range(2 ** wires), range(4)))


def plain_state(wires):
    """A state on which no two words do the same."""
    return tuple(number(3 * p + 2, p * p, 1, 5 * p, p % 3) for p in range(2 ** wires))


def model_word_done(model, word, wires):
    """A word done to a dict of numbers by rows of bits, by the words of [7.1]."""
    flips, signs = all_bits(wires)[word[0]], all_bits(wires)[word[1]]
    told = {}
    for bits, parts in model.items():
        both = sum(bit and sign for bit, sign in zip(bits, signs))
        further = tuple(1 - bit if flip else bit for bit, flip in zip(bits, flips))
        told[further] = product(parts, turn_parts(2 * word[2] + 4 * (both % 2)))
    return told


class WordCase(unittest.TestCase):
    def check_word(self, word, wires):
        self.assertEqual((type(word), len(word), [type(part) for part in word]), (tuple, 3, [int] * 3))
        self.assertTrue(0 <= word[0] < 2 ** wires and 0 <= word[1] < 2 ** wires and 0 <= word[2] < 4)


class Done(WordCase):
    def test_told_ones(self):
        a, b, c, d = (1, 2, 3, 4, 0), (0, 1, 0, 0, 1), (5, 0, 0, 0, 0), (0, 0, 7, 0, 2)
        told = (
            ((a, b), NOTHING, (a, b)), ((a, b), (1, 0, 0), (b, a)), ((a, b), (0, 1, 0), (a, (0, -1, 0, 0, 1))),
            ((a, b), (1, 1, 0), ((0, -1, 0, 0, 1), a)), ((c, c), (0, 0, 1), ((0, 0, 5, 0, 0), (0, 0, 5, 0, 0))),
            ((c, c), (0, 0, 2), ((-5, 0, 0, 0, 0), (-5, 0, 0, 0, 0))), ((I, O), (0, 0, 3), ((0, 0, -1, 0, 0), O)),
            ((I, O), (1, 1, 1), (O, (0, 0, 1, 0, 0))), ((O, I), (1, 1, 1), ((0, 0, -1, 0, 0), O)),
            ((a, b, c, d), (2, 0, 0), (c, d, a, b)), ((a, b, c, d), (1, 0, 0), (b, a, d, c)),
            ((a, b, c, d), (3, 0, 0), (d, c, b, a)), ((I, I, I, I), (0, 2, 0), (I, I, M, M)),
            ((I, I, I, I), (0, 1, 0), (I, M, I, M)), ((I, I, I, I), (0, 3, 0), (I, M, M, I)),
            ((I, I, I, I), (2, 2, 0), (M, M, I, I)))
        for state, word, behind in told:
            self.assertEqual(word_done(state, word), behind, word)

    def test_each_word(self):
        chance = random.Random(1)
        for wires in (1, 2, 3):
            state = any_state(chance, wires)
            for word in all_words(wires):
                told = word_done(state, word)
                self.assertEqual((type(told), len(told)), (tuple, 2 ** wires))
                self.assertEqual({(type(x), len(x)) for x in told}, {(tuple, 5)})
                self.assertTrue(all(is_least(x) for x in told))
                self.assertTrue(model_of(told) == model_word_done(model_of(state), word, wires))

    def test_over_many_wires(self):
        chance = random.Random(2)
        for wires in (4, 5, 6):
            for turn in range(12):
                state, word = any_state(chance, wires), any_word(chance, wires)
                self.assertTrue(model_of(word_done(state, word)) == model_word_done(model_of(state), word, wires))

    def test_no_two_words_do_the_same(self):
        for wires in (1, 2):
            done_by = [word_done(plain_state(wires), word) for word in all_words(wires)]
            self.assertEqual(len(set(done_by)), len(done_by))


class Products(WordCase):
    def check_product(self, one, other, wires):
        told = word_times(one, other)
        self.check_word(told, wires)
        state = plain_state(wires)
        self.assertEqual(word_done(state, told), word_done(word_done(state, other), one))
        back = word_times(other, one)
        self.assertIs(agree(one, other), told == back)
        self.assertIs(agree(one, other), word_done(word_done(state, one), other) == word_done(state, told))

    def test_told_ones(self):
        told = (
            (NOTHING, NOTHING, NOTHING), ((1, 0, 0), (1, 0, 0), NOTHING), ((0, 1, 0), (0, 1, 0), NOTHING),
            ((1, 0, 0), (0, 1, 0), (1, 1, 0)), ((0, 1, 0), (1, 0, 0), (1, 1, 2)), ((1, 1, 0), (1, 1, 0), (0, 0, 2)),
            ((1, 1, 1), (1, 1, 1), NOTHING), ((0, 0, 3), (0, 0, 2), (0, 0, 1)), ((0, 3, 0), (3, 0, 0), (3, 3, 0)),
            ((0, 2, 1), (3, 0, 1), (3, 2, 0)), ((63, 63, 3), (63, 0, 0), (0, 63, 3)), ((0, 7, 0), (7, 0, 0), (7, 7, 2)))
        for one, other, due in told:
            self.assertEqual(word_times(one, other), due, (one, other))

    def test_each_two(self):
        for wires in (1, 2):
            for one in all_words(wires):
                for other in all_words(wires):
                    self.check_product(one, other, wires)

    def test_over_many_wires(self):
        chance = random.Random(3)
        for wires in (3, 4, 6):
            for turn in range(40):
                self.check_product(any_word(chance, wires), any_word(chance, wires), wires)

    def test_agree_told_ones(self):
        told = (
            (NOTHING, (3, 1, 2), True), ((1, 0, 0), (0, 1, 0), False), ((1, 0, 0), (0, 2, 0), True),
            ((3, 0, 0), (0, 3, 0), True), ((3, 0, 0), (0, 1, 3), False), ((1, 1, 0), (1, 0, 0), False),
            ((1, 1, 0), (1, 1, 3), True), ((7, 0, 0), (0, 7, 0), False), ((63, 63, 1), (63, 63, 1), True))
        for one, other, due in told:
            self.assertIs(agree(one, other), due, (one, other))
            self.assertIs(agree(other, one), due, (one, other))

    def test_straight_told_ones(self):
        told = (
            (NOTHING, True), ((0, 0, 2), True), ((0, 0, 1), False), ((0, 0, 3), False), ((1, 0, 0), True),
            ((0, 1, 2), True),
            ((1, 1, 0), False), ((1, 1, 1), True), ((1, 1, 2), False), ((1, 1, 3), True), ((3, 3, 0), True),
            ((3, 3, 1), False), ((7, 7, 1), True), ((2, 1, 0), True), ((2, 1, 1), False))
        for word, due in told:
            self.assertIs(is_straight(word), due, word)

    def test_straight_done_again_lead_back(self):
        for wires in (1, 2, 3):
            state = plain_state(wires)
            for word in all_words(wires):
                self.assertIs(is_straight(word), word_done(word_done(state, word), word) == state)


class Carried(WordCase):
    def check_carried(self, wires, word, row):
        if row[0] == "turn" and row[2] % 2 and all_bits(wires)[word[0]][row[1]]:
            with self.assertRaises(OddTurn) as taken:
                carried(wires, word, row)
            self.assertIs(type(taken.exception), OddTurn)
            return None
        told = carried(wires, word, row)
        self.check_word(told, wires)
        state = plain_state(wires)
        self.assertEqual(done(word_done(state, word), row), word_done(done(state, row), told), (word, row))
        if row[0] == "turn" and not all_bits(wires)[word[0]][row[1]]:
            self.assertEqual(told, word)
        self.assertIs(is_straight(told), is_straight(word))
        return told

    def test_told_ones(self):
        told = (
            (1, (1, 0, 0), ("swing", 0), (0, 1, 0)), (1, (0, 1, 0), ("swing", 0), (1, 0, 0)),
            (1, (1, 1, 0), ("swing", 0), (1, 1, 2)), (1, (1, 1, 3), ("swing", 0), (1, 1, 1)),
            (1, (1, 0, 0), ("turn", 0, 2), (1, 1, 1)), (1, (1, 1, 0), ("turn", 0, 2), (1, 0, 1)),
            (1, (1, 0, 0), ("turn", 0, 4), (1, 0, 2)), (1, (1, 0, 0), ("turn", 0, 6), (1, 1, 3)),
            (1, (0, 1, 0), ("turn", 0, 2), (0, 1, 0)), (1, (0, 1, 2), ("turn", 0, 3), (0, 1, 2)),
            (1, (0, 1, 0), ("flip", 0), (0, 1, 2)), (1, (1, 0, 0), ("flip", 0), (1, 0, 0)),
            (1, (1, 1, 3), ("flip", 0), (1, 1, 1)), (2, (2, 0, 0), ("tie", 0, 1), (3, 0, 0)),
            (2, (0, 1, 0), ("tie", 0, 1), (0, 3, 0)), (2, (1, 0, 0), ("tie", 0, 1), (1, 0, 0)),
            (2, (0, 2, 0), ("tie", 0, 1), (0, 2, 0)), (2, (2, 0, 0), ("tie", 1, 0), (2, 0, 0)),
            (2, (1, 0, 0), ("tie", 1, 0), (3, 0, 0)), (2, (2, 0, 0), ("sign", 0, 1), (2, 1, 0)),
            (2, (1, 0, 0), ("sign", 0, 1), (1, 2, 0)), (2, (3, 0, 0), ("sign", 0, 1), (3, 3, 2)),
            (2, (0, 3, 1), ("sign", 1, 0), (0, 3, 1)), (2, (2, 1, 1), ("cross", 0, 1), (1, 2, 1)),
            (2, (3, 2, 0), ("cross", 1, 0), (3, 1, 0)), (6, (32, 1, 0), ("cross", 0, 5), (1, 32, 0)),
            (6, (32, 0, 0), ("tie", 0, 5), (33, 0, 0)))
        for wires, word, row, due in told:
            self.assertEqual(carried(wires, word, row), due, (word, row))

    def test_each_word_by_each_row(self):
        for wires in (1, 2):
            for row in plain_rows(wires):
                for word in all_words(wires):
                    self.check_carried(wires, word, row)

    def test_over_many_wires(self):
        chance = random.Random(4)
        for wires, many in ((3, 12), (4, 4), (6, 1)):
            for row in plain_rows(wires):
                for turn in range(many):
                    self.check_carried(wires, any_word(chance, wires), row)

    def test_words_that_agree_are_carried_to_such(self):
        chance = random.Random(5)
        for wires in (1, 2, 3, 6):
            for row in plain_rows(wires):
                if row[0] != "turn" or row[2] % 2 == 0:
                    one, other = any_word(chance, wires), any_word(chance, wires)
                    told = carried(wires, one, row), carried(wires, other, row)
                    self.assertIs(agree(*told), agree(one, other))
                    self.assertEqual(carried(wires, word_times(one, other), row), word_times(*told))

    def test_odd_turns(self):
        for e in (1, 3, 5, 7):
            for word in ((1, 0, 0), (1, 1, 1), (1, 0, 2), (3, 0, 0)):
                with self.assertRaises(OddTurn) as taken:
                    carried(2, word, ("turn", 1, e))
                self.assertIs(type(taken.exception), OddTurn)
            for word in ((2, 0, 0), (2, 3, 1), (0, 1, 0), NOTHING):
                self.assertEqual(carried(2, word, ("turn", 1, e)), word)


class Telling(WordCase):
    def test_what_was_handed_in_stays_and_the_same_is_told_alike(self):
        state = any_state(random.Random(6), 2)
        asks = [(word_times, ((3, 1, 2), (1, 2, 3))), (agree, ((3, 1, 2), (1, 2, 3))), (is_straight, ((3, 1, 2),)),
                (word_done, (state, (3, 1, 2)))]
        asks += [(carried, (2, (1, 3, 2), row)) for row in plain_rows(2) if row[0] != "turn" or row[2] % 2 == 0]
        check_told_alike(self, asks)

    def test_arguments_are_those_of_the_interface(self):
        told = (
            (word_times, "(one, other)"), (agree, "(one, other)"), (is_straight, "(word)"),
            (word_done, "(state, word)"),
            (carried, "(wires, word, row)"))
        check_arguments(self, words, told)


if __name__ == "__main__":
    unittest.main()
