"""[6.1] to [6.3] Bits summed away: steps, chains, sums worn down."""

import random
import unittest

from wavewires import away
from wavewires.away import chain_stands, stepped, steps_of, worn
from wavewires.errors import NoStep
from wavewires.runs import branches
from wavewires.sums import number_at, sum_of

from reckoning import (
    MANY, all_bits, any_circuit, any_sum, as_number, bits_in, check_arguments, check_told_alike, even_rows,
    settings_of, sum_is_formed, ways_number)

O = (0, 0, 0, 0, 0)
EVEN = (2, 4, 6)


def model_steps(one):
    """All steps that fit, by the words of [6.1]."""
    (wires, looks), halves, turn, turns, ties, hidden = one
    told = []
    for b in hidden:
        in_tie = any(b in bits_in(tie) for tie in ties)
        if not in_tie and all(e in EVEN for s, e in turns if b in bits_in(s)):
            told.append(("away", b))
    return told + [("put", tie, b) for tie in sorted(ties) for b in sorted(bits_in(tie)) if b in hidden]


def model_stepped(one, step):
    """What comes of a step that fits, by the words of [6.1]; sets are frozensets here."""
    shape, halves, turn, turns, ties, hidden = one
    b = step[-1]
    turns = [(bits_in(s), e) for s, e in turns]
    ties = [bits_in(tie) for tie in ties]
    kept = [(s, e) for s, e in turns if b not in s]
    moved = [(s, e) for s, e in turns if b in s]
    if step[0] == "put":
        tie = bits_in(step[1])
        more = [(s ^ tie, e) for s, e in moved]
        ties = [other ^ tie if b in other else other for other in ties if other != tie]
    else:
        more = [(s - {b}, e) for s, e in moved]
        total = sum(e for s, e in moved) % 8
        odd_ones = frozenset()
        for s, e in moved:
            if e in (2, 6):
                odd_ones ^= s - {b}
        if total in (0, 4):
            halves -= 2
            ties.append(odd_ones ^ {0} if total == 4 else odd_ones)
        else:
            halves -= 1
            turn += 1 if total == 2 else 7
            more.append((odd_ones, 6 if total == 2 else 2))
    by_set = dict(kept)
    for s, e in more:
        if 0 in s:
            turn += e
            e = -e
        by_set[s - {0}] = by_set.get(s - {0}, 0) + e
    told = sorted((as_number(s), e % 8) for s, e in by_set.items() if s and e % 8)
    return (
        shape, halves, turn % 8, tuple(told), tuple(sorted({as_number(tie) for tie in ties if tie})),
        tuple(bit for bit in hidden if bit != b))


class SumCase(unittest.TestCase):
    def check_same_numbers(self, one, other, settings):
        for begin, marks, end in settings:
            self.assertTrue(ways_number(one, begin, marks, end) == ways_number(other, begin, marks, end))

    def check_step(self, one, step, settings):
        told = stepped(one, step)
        self.assertEqual(told, model_stepped(one, step), step)
        self.assertTrue(sum_is_formed(told))
        self.assertEqual(told[5], tuple(bit for bit in one[5] if bit != step[-1]))
        self.check_same_numbers(one, told, settings)

    def check_no_step(self, one, step):
        with self.assertRaises(NoStep, msg=step) as taken:
            stepped(one, step)
        self.assertIs(type(taken.exception), NoStep)
        self.assertIs(chain_stands(one, [step], one), False)

    def some_sums(self, seed, many, es=(1, 2, 3, 4, 5, 6, 7)):
        chance = random.Random(seed)
        for turn in range(many):
            shape = (chance.randint(1, 2), chance.randint(0, 1))
            few = chance.choice((0, 1, 3, 6))
            one = any_sum(chance, shape, chance.randint(0, 5), few, chance.choice((0, 0, 1, 2, 3)), es)
            settings = settings_of(one)
            yield one, chance.sample(settings, min(6, len(settings)))


class Steps(SumCase):
    def test_told_ones(self):
        told = (
            (((1, 0), 0, 0, (), (), ()), []), (((1, 0), 0, 0, (), (), (3,)), [("away", 3)]),
            (((1, 0), 0, 0, (), (), (3, 5, 9)), [("away", 3), ("away", 5), ("away", 9)]),
            (((1, 0), 0, 0, ((8, 2),), (), (3,)), [("away", 3)]), (((1, 0), 0, 0, ((8, 1),), (), (3,)), []),
            (((1, 0), 0, 0, ((8, 4), (10, 7)), (), (3,)), []), (((1, 0), 0, 0, ((2, 7), (8, 4)), (), (3,)), [("away", 3)]),
            (((1, 0), 0, 0, ((8, 1),), (8,), (3,)), [("put", 8, 3)]), (((1, 0), 0, 0, (), (6,), ()), []),
            (((1, 0), 0, 0, (), (6,), (3,)), [("away", 3)]), (((1, 0), 0, 0, (), (1,), ()), []),
            (((1, 0), 0, 0, (), (11, 24), (3, 4, 5)), [("away", 5), ("put", 11, 3), ("put", 24, 3), ("put", 24, 4)]),
            (((1, 0), 0, 0, (), (24, 40), (3, 4, 5)), [("put", 24, 3), ("put", 24, 4), ("put", 40, 3), ("put", 40, 5)]))
        for one, due in told:
            self.assertEqual(steps_of(one), due, one)

    def test_any(self):
        for one, settings in self.some_sums(1, 300):
            told = steps_of(one)
            self.assertIs(type(told), list)
            self.assertEqual({type(step) for step in told} | {tuple}, {tuple})
            self.assertEqual(told, model_steps(one))

    def test_of_circuits(self):
        chance = random.Random(2)
        for turn in range(60):
            one = sum_of(any_circuit(chance, chance.randint(1, 6), chance.choice((5, 20, 60)), chance.randint(0, 5)))
            self.assertEqual(steps_of(one), model_steps(one))


class Stepped(SumCase):
    def test_away_told_ones(self):
        told = (
            # In no turn at all.
            (((1, 0), 0, 0, (), (), (3,)), ((1, 0), -2, 0, (), (), ())),
            (((1, 0), 5, 3, ((2, 1),), (6,), (3, 4)), ((1, 0), 3, 3, ((2, 1),), (6,), (4,))),
            # C is 0, 4, 2 and 6, with nothing beside the bit.
            (((1, 0), 0, 0, ((8, 4),), (), (3,)), ((1, 0), -2, 0, (), (1,), ())),
            (((1, 0), 0, 0, ((8, 2),), (), (3,)), ((1, 0), -1, 1, (), (), ())),
            (((1, 0), 0, 7, ((8, 2),), (), (3,)), ((1, 0), -1, 0, (), (), ())),
            (((1, 0), 0, 0, ((8, 6),), (), (3,)), ((1, 0), -1, 7, (), (), ())),
            # With one wire's bit beside it.
            (((1, 0), 0, 0, ((8, 6), (10, 2)), (), (3,)), ((1, 0), -2, 0, ((2, 2),), (2,), ())),
            (((1, 0), 0, 0, ((8, 2), (10, 2)), (), (3,)), ((1, 0), -2, 0, ((2, 2),), (3,), ())),
            (((1, 0), 0, 0, ((10, 2),), (), (3,)), ((1, 0), -1, 1, (), (), ())),
            (((1, 0), 0, 0, ((10, 6),), (), (3,)), ((1, 0), -1, 7, (), (), ())),
            (((1, 0), 0, 0, ((10, 4),), (), (3,)), ((1, 0), -2, 0, ((2, 4),), (1,), ())),
            (((1, 0), 0, 0, ((2, 3), (10, 4)), (), (3,)), ((1, 0), -2, 0, ((2, 7),), (1,), ())),
            (((1, 0), 0, 0, ((10, 2), (12, 2), (14, 6)), (), (3,)), (
                (1, 0), -1, 1, ((2, 2), (4, 2), (6, 6)), (), ())),
            # The tie is there already.
            (((1, 0), 0, 0, ((8, 6), (10, 2)), (2,), (3,)), ((1, 0), -2, 0, ((2, 2),), (2,), ())),
            (((1, 0), 0, 0, ((8, 6), (10, 2)), (1, 6), (3,)), ((1, 0), -2, 0, ((2, 2),), (1, 2, 6), ())))
        for one, due in told:
            self.assertEqual(stepped(one, ("away", 3)), due, one)
            self.check_step(one, ("away", 3), settings_of(one))

    def test_put_told_ones(self):
        told = (
            (((1, 0), 0, 0, (), (8,), (3,)), ("put", 8, 3), ((1, 0), 0, 0, (), (), ())),
            (((1, 0), 0, 0, ((8, 1),), (8,), (3,)), ("put", 8, 3), ((1, 0), 0, 0, (), (), ())),
            (((1, 0), 0, 0, ((8, 1),), (9,), (3,)), ("put", 9, 3), ((1, 0), 0, 1, (), (), ())),
            (((1, 0), 3, 7, ((8, 1),), (10,), (3,)), ("put", 10, 3), ((1, 0), 3, 7, ((2, 1),), (), ())),
            (((1, 0), 0, 7, ((8, 3),), (11,), (3,)), ("put", 11, 3), ((1, 0), 0, 2, ((2, 5),), (), ())),
            (((1, 0), 0, 0, ((2, 3), (8, 5)), (10,), (3,)), ("put", 10, 3), ((1, 0), 0, 0, (), (), ())),
            (((1, 0), 0, 0, (), (8, 9), (3,)), ("put", 8, 3), ((1, 0), 0, 0, (), (1,), ())),
            (((1, 0), 0, 0, (), (8, 9), (3,)), ("put", 9, 3), ((1, 0), 0, 0, (), (1,), ())),
            (((1, 0), 0, 0, (), (2, 8, 10), (3,)), ("put", 8, 3), ((1, 0), 0, 0, (), (2,), ())),
            (((1, 0), 0, 0, (), (2, 8, 10), (3,)), ("put", 10, 3), ((1, 0), 0, 0, (), (2,), ())),
            (((1, 0), 0, 0, ((24, 1),), (24,), (3, 4)), ("put", 24, 4), ((1, 0), 0, 0, (), (), (3,))),
            (((1, 0), 0, 0, ((16, 1),), (24,), (3, 4)), ("put", 24, 4), ((1, 0), 0, 0, ((8, 1),), (), (3,))),
            (((1, 0), 0, 0, ((16, 1),), (24,), (3, 4)), ("put", 24, 3), ((1, 0), 0, 0, ((16, 1),), (), (4,))))
        for one, step, due in told:
            self.assertEqual(stepped(one, step), due, one)
            self.check_step(one, step, settings_of(one))

    def test_each_step_keeps_the_numbers(self):
        kinds = []
        for one, settings in list(self.some_sums(3, 120)) + list(self.some_sums(4, 80, EVEN)):
            for step in steps_of(one):
                self.check_step(one, step, settings)
                kinds.append(step[0])
        self.assertGreater(min(kinds.count("away"), kinds.count("put")), 50)

    def test_each_step_of_great_sums(self):
        chance = random.Random(5)
        for es in ((1, 2, 3, 4, 5, 6, 7), EVEN):
            one = any_sum(chance, (6, 6), 60, 400, 80, es)
            for step in chance.sample(steps_of(one), 20):
                self.check_step(one, step, ())
            one = any_sum(chance, (6, 6), 60, 400, 0, EVEN)
            for step in chance.sample(steps_of(one), 10):
                self.check_step(one, step, ())

    def test_steps_that_do_not_fit(self):
        one = ((2, 1), 0, 0, ((1 << 7, 1), (1 << 8, 2)), (2, 5, 1 << 9 | 1 << 1, 1 << 9 | 1 << 10 | 4), (6, 7, 8, 9, 10))
        self.assertEqual(steps_of(one)[:2], [("away", 6), ("away", 8)])
        for bit in (7, 9, 10, 0, 1, 2, 5, 11, 300, -1, -6, MANY, -MANY):
            self.check_no_step(one, ("away", bit))
        whole_numbers = (0, 1, 2, 5, 6, 8, 9, 10, 514, 1540, 512, -1, -2, 513, MANY, -MANY)
        for tie in whole_numbers:
            for bit in whole_numbers:
                step = ("put", tie, bit)
                if step in (("put", 514, 9), ("put", 1540, 9), ("put", 1540, 10)):
                    self.check_step(one, step, ())
                else:
                    self.check_no_step(one, step)

    def test_every_other_step_is_refused(self):
        for one, settings in self.some_sums(6, 60):
            fitting = steps_of(one)
            for bit in range(-1, max(one[5] + (7,)) + 2):
                for step in [("away", bit)] + [("put", tie, bit) for tie in one[4] + (3, 1 << 6)]:
                    if step not in fitting:
                        self.check_no_step(one, step)


class Worn(SumCase):
    def check_worn(self, one, settings=()):
        told = worn(one)
        self.assertEqual((type(told), len(told), type(told[0])), (tuple, 2, list))
        steps, last = told
        self.assertEqual({type(step) for step in steps} | {tuple}, {tuple})
        self.assertTrue(sum_is_formed(last))
        self.assertEqual(model_steps(last), [])
        self.assertEqual(len(last[5]), len(one[5]) - len(steps))
        at = one
        for step in steps:
            self.assertIn(step, model_steps(at))
            at = model_stepped(at, step)
        self.assertEqual(at, last)
        self.assertIs(chain_stands(one, steps, last), True)
        self.check_same_numbers(one, last, settings)
        return told

    def test_told_ones(self):
        self.assertEqual(worn(((1, 0), 0, 0, (), (6,), ())), ([], ((1, 0), 0, 0, (), (6,), ())))
        self.assertEqual(worn(((1, 0), 2, 0, (), (), (3,))), ([("away", 3)], ((1, 0), 0, 0, (), (), ())))
        stuck = ((1, 0), 2, 0, ((8, 1),), (), (3,))
        self.assertEqual(worn(stuck), ([], stuck))
        self.assertEqual(worn(((1, 0), 0, 1, ((8, 1),), (9,), (3,))), ([("put", 9, 3)], ((1, 0), 0, 2, (), (), ())))
        self.assertEqual(worn(sum_of((1, (("swing", 0),) * 2)))[1], sum_of((1, ())))

    def test_any(self):
        for one, settings in self.some_sums(7, 150):
            self.check_worn(one, settings)

    def test_no_bit_is_left_where_all_e_are_even(self):
        for one, settings in self.some_sums(8, 100, EVEN):
            self.assertEqual(self.check_worn(one, settings)[1][5], ())

    def test_great_sums(self):
        chance = random.Random(9)
        for ties in (0, 5, 80):
            one = any_sum(chance, (6, 6), 60, 400, ties, EVEN)
            self.assertEqual(self.check_worn(one)[1][5], ())
            self.check_worn(any_sum(chance, (6, 6), 60, 400, ties))

    def test_circuits_without_odd_turns(self):
        chance = random.Random(10)
        for turn in range(25):
            wires = chance.randint(1, 3)
            circuit = any_circuit(chance, wires, chance.choice((8, 25, 60)), chance.randint(0, 3), even_rows(wires))
            steps, last = self.check_worn(sum_of(circuit))
            self.assertEqual(last[5], ())
            self.check_run(circuit, last)

    def test_circuits_with_odd_turns(self):
        chance = random.Random(11)
        for turn in range(25):
            circuit = any_circuit(chance, chance.randint(1, 3), chance.choice((8, 14)), chance.randint(0, 2))
            steps, last = self.check_worn(sum_of(circuit))
            if len(last[5]) <= 8:
                self.check_run(circuit, last)

    def check_run(self, circuit, one):
        wires = circuit[0]
        for begin in range(2 ** wires):
            found = dict(branches(circuit, begin))
            for marks in all_bits(one[0][1]):
                state = found.get(marks, (O,) * 2 ** wires)
                self.assertEqual(tuple(number_at(one, begin, marks, end) for end in range(2 ** wires)), state)

    def test_a_sum_of_nought(self):
        # Turned by a half, summed over both: nought everywhere, by the tie of bit 0 alone.
        steps, last = self.check_worn(((1, 0), 0, 0, ((8, 4),), (), (3,)))
        self.assertEqual((steps, last[4]), ([("away", 3)], (1,)))
        for begin in (0, 1):
            for end in (0, 1):
                self.assertEqual(number_at(last, begin, (), end), O)


class Chains(SumCase):
    def test_told_ones(self):
        one = ((1, 0), 0, 0, (), (24,), (3, 4, 5))
        put = ((1, 0), 0, 0, (), (), (4, 5))
        both = ((1, 0), -2, 0, (), (), (4,))
        told = (
            ([], one, True), ([], put, False), ([("put", 24, 3)], put, True), ([("put", 24, 4)], put, False),
            ([("put", 24, 3)], one, False), ([("put", 24, 3), ("away", 5)], both, True),
            ([("away", 5), ("put", 24, 3)], both, True), ([("away", 5)], both, False),
            ([("put", 24, 3), ("away", 3)], both, False), ([("put", 24, 3), ("put", 24, 3)], put, False),
            ([("away", 3)], both, False), ([("away", 5), ("away", 5)], both, False),
            ([("put", 24, 3), ("away", 5), ("away", 4)], both, False),
            ([("put", 24, 3), ("away", 5), ("away", 4)], ((1, 0), -4, 0, (), (), ()), True),
            ([("away", -1)], one, False), ([("away", MANY)], one, False), ([("put", -24, 3)], put, False),
            ([("put", 24, -3)], put, False), ([("away", 5), ("put", 24, 3)], ((1, 0), -2, 1, (), (), (4,)), False),
            ([("away", 5), ("put", 24, 3)], ((2, 0), -2, 0, (), (), (4,)), False))
        for steps, last, stands in told:
            self.assertIs(chain_stands(one, steps, last), stands, steps)

    def test_chains_picked_by_chance(self):
        chance = random.Random(12)
        for one, settings in self.some_sums(13, 80, EVEN):
            at, steps = one, []
            while steps_of(at):
                steps.append(chance.choice(steps_of(at)))
                at = stepped(at, steps[-1])
                self.assertIs(chain_stands(one, steps, at), True)
            self.assertEqual(at[5], ())
            self.check_same_numbers(one, at, settings[:2])
            if steps:
                self.assertIs(chain_stands(one, steps[:-1], at), False)
                self.assertIs(chain_stands(one, steps[1:], at), False)
                self.assertIs(chain_stands(one, steps + steps[-1:], at), False)
                changed = at[:2] + ((at[2] + 1) % 8,) + at[3:]
                self.assertIs(chain_stands(one, steps, changed), False)


class Telling(SumCase):
    def test_what_was_handed_in_stays_and_the_same_is_told_alike(self):
        one = ((1, 0), 0, 0, ((8, 2), (10, 2), (32, 1)), (24,), (3, 4, 5))
        steps, last = worn(one)
        asks = (
            (steps_of, (one,)), (stepped, (one, ("put", 24, 3))), (worn, (one,)), (chain_stands, (one, steps, last)),
            (chain_stands, (one, [("away", 3)], last)))
        check_told_alike(self, asks)

    def test_a_list_that_was_told_and_changed_changes_nothing_later(self):
        one = ((1, 0), 0, 0, (), (24,), (3, 4, 5))
        for ask in (steps_of, lambda asked: worn(asked)[0]):
            told = ask(one)
            kept = list(told)
            self.assertIsNot(ask(one), told)
            told.append(("away", 3))
            told[0] = None
            self.assertEqual(ask(one), kept)
        none = worn(((1, 0), 0, 0, (), (), ()))[0]
        none.append(None)
        self.assertEqual(worn(((1, 0), 0, 0, (), (), ()))[0], [])
        self.assertEqual(steps_of(((1, 0), 0, 0, (), (), ())), [])

    def test_arguments_are_those_of_the_interface(self):
        told = (
            (steps_of, "(one)"), (stepped, "(one, step)"), (worn, "(one)"), (chain_stands, "(one, steps, last)"))
        check_arguments(self, away, told)


if __name__ == "__main__":
    unittest.main()
