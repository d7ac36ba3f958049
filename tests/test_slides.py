"""[10.1] to [10.3] Rows that let each other by, and the steps that make a circuit shorter."""

import itertools
import random
import unittest

from wavewires import slides
from wavewires.errors import NoStep
from wavewires.runs import branches
from wavewires.slides import lets_by, slid, slides_of
from wavewires.states import done

from reckoning import MANY, any_circuit, any_state, check_arguments, check_told_alike, plain_rows, repeating_circuit


def all_rows(wires):
    told = plain_rows(wires) + [("look", j) for j in range(wires)]
    wheres = [("where", m, row) for m in (0, 1) for j in range(wires) for row in (("flip", j), ("turn", j, 4))]
    return told + wheres


def inside(row):
    return row[2] if row[0] == "where" else row


def standing(row):
    row = inside(row)
    return set(row[1:3]) if row[0] in ("tie", "sign", "cross") else {row[1]}


def held(row):
    row = inside(row)
    return {"turn": {row[1]}, "look": {row[1]}, "sign": set(row[1:3]), "tie": {row[1]}}.get(row[0], set())


def flipped(row):
    row = inside(row)
    return {"flip": set(row[1:2]), "tie": set(row[2:3])}.get(row[0], set())


def model_lets_by(one, other, mark=None):
    """By the words of [10.1]."""
    kinds = {one[0], other[0]}
    if kinds == {"look"}:
        return False
    if kinds == {"look", "where"} and [row for row in (one, other) if row[0] == "where"][0][1] == mark:
        return False
    alike = (held(one) & held(other)) | (flipped(one) & flipped(other))
    return standing(one) & standing(other) <= alike


def looks_by_place(rows):
    marks, told = 0, {}
    for k, row in enumerate(rows):
        if row[0] == "look":
            told[k] = marks
            marks += 1
    return told


def model_slide(circuit, step):
    """The circuit behind a step by the words of [10.2], or None where it does not fit."""
    wires, rows = circuit
    places = step[1:]
    if list(places) != sorted(set(places)) or places[0] < 0 or places[-1] >= len(rows):
        return None
    first, last = rows[places[0]], rows[places[-1]]
    marks = looks_by_place(rows)
    told = list(rows)
    if step[0] == "swung":
        p, q, t = places
        come = model_swung(rows, p, q, t)
        if come is None:
            return None
        told[p], told[q], told[t] = None, come, None
    else:
        p, q = places
        if not all(model_lets_by(first, rows[k], marks.get(k)) for k in range(p + 1, q)):
            return None
        told[p] = told[q] = None
        if step[0] == "joined":
            if not (first[0] == last[0] == "turn" and first[1] == last[1]):
                return None
            e = (first[2] + last[2]) % 8
            told[q] = ("turn", first[1], e) if e else None
        else:
            other_way = first[:1] + first[:0:-1] if first[0] in ("sign", "cross") else first
            if first[0] in ("turn", "look") or last not in (first, other_way):
                return None
    return (wires, tuple(row for row in told if row))


def model_swung(rows, p, q, t):
    if rows[p] != rows[t] or rows[p][0] != "swing":
        return None
    j = rows[p][1]
    if [k for k in range(p + 1, t) if j in standing(rows[k])] != [q]:
        return None
    row, swapped = rows[q], {("flip", j): ("turn", j, 4), ("turn", j, 4): ("flip", j)}
    if row in swapped:
        return swapped[row]
    if row[0] == "where":
        return ("where", row[1], swapped[row[2]])
    if row[0] == "tie" and row[2] == j:
        return ("sign", row[1], row[2])
    if row[0] == "sign":
        return ("tie", (standing(row) - {j}).pop(), j)
    return None


def all_steps(many):
    told = [(kind, p, q) for kind in ("gone", "joined") for p, q in itertools.combinations(range(many), 2)]
    return told + [("swung",) + places for places in itertools.combinations(range(many), 3)]


def model_slides(circuit):
    return sorted(step for step in all_steps(len(circuit[1])) if model_slide(circuit, step))


class LetsBy(unittest.TestCase):
    def test_told_ones(self):
        told = (
            (("turn", 0, 1), ("turn", 0, 4), True), (("turn", 0, 1), ("flip", 0), False),
            (("flip", 0), ("flip", 0), True),
            (("swing", 0), ("swing", 0), False), (("swing", 0), ("swing", 1), True),
            (("swing", 0), ("turn", 0, 4), False),
            (("turn", 0, 1), ("tie", 0, 1), True), (("turn", 1, 1), ("tie", 0, 1), False),
            (("flip", 1), ("tie", 0, 1), True),
            (("flip", 0), ("tie", 0, 1), False), (("tie", 0, 1), ("tie", 0, 2), True),
            (("tie", 0, 1), ("tie", 2, 1), True),
            (("tie", 0, 1), ("tie", 1, 0), False), (("tie", 0, 1), ("tie", 1, 2), False),
            (("tie", 0, 1), ("tie", 0, 1), True),
            (("sign", 0, 1), ("sign", 1, 2), True), (("sign", 0, 1), ("tie", 0, 2), True),
            (("sign", 0, 1), ("tie", 2, 0), False),
            (("cross", 0, 1), ("cross", 0, 1), False), (("cross", 0, 1), ("turn", 2, 1), True),
            (("cross", 0, 1), ("turn", 1, 1), False), (("look", 0), ("turn", 0, 3), True),
            (("look", 0), ("flip", 0), False),
            (("look", 0), ("tie", 0, 1), True), (("look", 1), ("tie", 0, 1), False), (("look", 0), ("look", 0), False),
            (("look", 0), ("look", 1), False), (("look", 0), ("sign", 1, 0), True),
            (("where", 0, ("flip", 0)), ("flip", 0), True), (("where", 0, ("flip", 0)), ("turn", 0, 2), False),
            (("where", 0, ("turn", 0, 4)), ("turn", 0, 2), True),
            (("where", 0, ("flip", 0)), ("where", 1, ("flip", 0)), True),
            (("where", 0, ("flip", 0)), ("where", 0, ("turn", 0, 4)), False),
            (("where", 0, ("flip", 0)), ("where", 0, ("turn", 1, 4)), True),
            (("where", 0, ("flip", 0)), ("look", 1), True), (("where", 0, ("flip", 0)), ("look", 0), False),
            (("where", 0, ("turn", 0, 4)), ("look", 0), True))
        for one, other, due in told:
            self.assertIs(lets_by(one, other), due, (one, other))
            self.assertIs(lets_by(other, one), due, (one, other))

    def test_looks_and_where_rows_are_asked_by_the_mark(self):
        for m in range(6):
            row = ("where", m, ("turn", 0, 4))
            for mark in (None, 0, 1, 2, 3, 4, 5):
                for wire in (0, 1):
                    self.assertIs(lets_by(row, ("look", wire), mark), m != mark)
                    self.assertIs(lets_by(("look", wire), row, mark=mark), m != mark)
                self.assertIs(lets_by(("where", m, ("flip", 0)), ("look", 0), mark), False)
                # Without a look, or without a where row, the mark does not count.
                self.assertIs(lets_by(("look", 0), ("turn", 0, 1), mark), True)
                self.assertIs(lets_by(("look", 0), ("swing", 0), mark), False)
                self.assertIs(lets_by(("look", 0), ("look", 1), mark), False)
                self.assertIs(lets_by(row, ("turn", 0, 1), None), True)
                self.assertIs(lets_by(row, ("where", 3, ("turn", 0, 4)), None), True)

    def test_each_two_rows(self):
        rows = all_rows(3)
        for one, other in itertools.product(rows, rows):
            for mark in (None, 0, 1, 5) if "look" in (one[0], other[0]) else (None,):
                self.assertIs(lets_by(one, other, mark), model_lets_by(one, other, mark), (one, other, mark))

    def test_rows_that_let_each_other_by_may_be_done_in_either_order(self):
        state = any_state(random.Random(1), 3)
        found = []
        for one, other in itertools.combinations(plain_rows(3), 2):
            found.append(lets_by(one, other))
            if found[-1]:
                self.assertEqual(done(done(state, one), other), done(done(state, other), one))
        self.assertEqual(set(found), {True, False})


class SlideCase(unittest.TestCase):
    def check_steps(self, circuit):
        told = slides_of(circuit)
        self.assertIs(type(told), list)
        self.assertEqual({type(step) for step in told} | {tuple}, {tuple})
        self.assertEqual(told, model_slides(circuit), circuit)
        return told

    def check_slid(self, circuit, step):
        told = slid(circuit, step)
        self.assertEqual(told, model_slide(circuit, step))
        self.assertEqual((type(told), type(told[1])), (tuple, tuple))
        self.assertLess(len(told[1]), len(circuit[1]))
        return told

    def check_no_step(self, circuit, step):
        with self.assertRaises(NoStep, msg=step) as taken:
            slid(circuit, step)
        self.assertIs(type(taken.exception), NoStep)


S, F, T = ("swing", 0), ("flip", 0), ("turn", 0, 1)


class Steps(SlideCase):
    def test_told_ones(self):
        told = (
            ((), []), ((S,), []), ((S, S), [("gone", 0, 1)]), ((S, S, S), [("gone", 0, 1), ("gone", 1, 2)]),
            ((S, F), []),
            ((S, ("swing", 1)), []), ((F, F), [("gone", 0, 1)]), ((T, T), [("joined", 0, 1)]),
            ((T, ("turn", 0, 7)), [("joined", 0, 1)]),
            ((T, ("turn", 1, 1)), []), ((T, F, T), []), ((T, ("tie", 0, 1), T), [("joined", 0, 2)]),
            ((T, ("tie", 1, 0), T), []),
            ((F, F, F), [("gone", 0, 1), ("gone", 0, 2), ("gone", 1, 2)]),
            ((T, T, T), [("joined", 0, 1), ("joined", 0, 2), ("joined", 1, 2)]),
            ((F, T, F), []), ((F, ("swing", 1), F), [("gone", 0, 2)]), ((F, ("look", 0), F), []),
            ((F, ("look", 1), F), [("gone", 0, 2)]), ((T, ("look", 0), T), [("joined", 0, 2)]),
            ((("look", 0), ("look", 0)), []),
            ((("tie", 0, 1), ("tie", 0, 1)), [("gone", 0, 1)]), ((("tie", 0, 1), ("tie", 1, 0)), []),
            ((("sign", 0, 1), ("sign", 1, 0)), [("gone", 0, 1)]),
            ((("cross", 0, 1), ("cross", 1, 0)), [("gone", 0, 1)]),
            ((("cross", 0, 1), ("swing", 2), ("cross", 0, 1)), [("gone", 0, 2)]),
            ((("cross", 0, 1), T, ("cross", 0, 1)), []),
            ((("sign", 0, 1), T, ("tie", 1, 2), ("sign", 1, 0)), [("gone", 0, 3)]),
            ((("sign", 0, 1), ("sign", 0, 2)), []),
            ((("sign", 0, 1), ("cross", 0, 1)), []), ((("tie", 0, 1), ("sign", 0, 1)), []),
            ((S, F, S), [("swung", 0, 1, 2)]), ((S, ("turn", 0, 4), S), [("swung", 0, 1, 2)]),
            ((S, ("turn", 0, 2), S), []),
            ((S, ("tie", 1, 0), S), [("swung", 0, 1, 2)]), ((S, ("tie", 0, 1), S), []),
            ((S, ("sign", 0, 1), S), [("swung", 0, 1, 2)]),
            ((S, ("sign", 1, 0), S), [("swung", 0, 1, 2)]), ((S, ("cross", 0, 1), S), []), ((S, ("look", 0), S), []),
            ((S, F, F, S), [("gone", 1, 2)]), ((S, ("flip", 1), F, ("look", 1), S), [("swung", 0, 2, 4)]),
            ((S, F, S, F, S), [("swung", 0, 1, 2), ("swung", 2, 3, 4)]),
            ((S, F, S, S), [("gone", 2, 3), ("swung", 0, 1, 2)]),
            ((S, F, ("swing", 1)), []), ((S, F), []), ((S, F, T), []))
        for rows, due in told:
            self.assertEqual(slides_of((3, rows)), due, rows)
            self.check_steps((3, rows))

    def test_where_rows(self):
        look, flip, sign = ("look", 1), ("where", 0, F), ("where", 0, ("turn", 0, 4))
        told = (
            ((look, flip, flip), [("gone", 1, 2)]), ((look, sign, sign), [("gone", 1, 2)]), ((look, flip, sign), []),
            ((look, flip, F, flip), [("gone", 1, 3)]), ((look, flip, T, flip), []),
            ((look, sign, T, sign), [("gone", 1, 3)]),
            ((look, look, flip, ("where", 1, F)), []), ((look, flip, look, ("where", 1, F)), []),
            ((look, flip, look, flip), [("gone", 1, 3)]), ((look, flip, ("look", 0), flip), []),
            ((look, sign, ("look", 0), sign), [("gone", 1, 3)]), ((look, sign, ("turn", 0, 4)), []),
            ((look, F, flip, F), [("gone", 1, 3)]),
            ((look, T, sign, T), [("joined", 1, 3)]), ((look, S, flip, S), [("swung", 1, 2, 3)]),
            ((look, S, sign, S), [("swung", 1, 2, 3)]), ((S, look, flip, S), [("swung", 0, 2, 3)]),
            ((look, S, flip, sign, S), []), ((look, S, flip, flip, S), [("gone", 2, 3)]))
        for rows, due in told:
            self.assertEqual(slides_of((2, rows)), due, rows)
            self.check_steps((2, rows))

    def test_any(self):
        chance = random.Random(2)
        found = []
        for turn in range(150):
            wires = chance.randint(1, 3)
            found += self.check_steps(repeating_circuit(chance, wires, chance.randint(1, 14), chance.choice((0, 0, 1))))
            found += self.check_steps(any_circuit(chance, wires, 10, chance.randint(0, 4)))
        for kind in ("gone", "joined", "swung"):
            self.assertGreater(sum(step[0] == kind for step in found), 30)

    def test_sixty_rows(self):
        chance = random.Random(3)
        for wires, looks in ((1, 0), (4, 6), (6, 6)):
            self.check_steps(any_circuit(chance, wires, 60, looks))
            self.check_steps(repeating_circuit(chance, wires, 60, looks))
        self.assertEqual(len(slides_of((1, (F,) * 60))), 59 * 30)
        self.assertEqual(slides_of((1, (S,) * 60)), [("gone", p, p + 1) for p in range(59)])


class Slid(SlideCase):
    def test_told_ones(self):
        look = ("look", 1)
        told = (
            ((S, S), ("gone", 0, 1), ()), ((F, ("swing", 1), F), ("gone", 0, 2), (("swing", 1),)),
            ((T, T), ("joined", 0, 1), (("turn", 0, 2),)),
            ((T, ("turn", 0, 7)), ("joined", 0, 1), ()),
            ((("turn", 0, 6), ("look", 0), ("turn", 0, 5)), ("joined", 0, 2), (
                ("look", 0), ("turn", 0, 3))),
            ((T, ("turn", 0, 2), ("turn", 0, 4)), ("joined", 0, 2), (("turn", 0, 2), ("turn", 0, 5))),
            ((S, F, S), ("swung", 0, 1, 2), (("turn", 0, 4),)), ((S, ("turn", 0, 4), S), ("swung", 0, 1, 2), (F,)),
            ((S, ("tie", 1, 0), S), ("swung", 0, 1, 2), (("sign", 1, 0),)),
            ((S, ("sign", 1, 0), S), ("swung", 0, 1, 2), (("tie", 1, 0),)),
            ((S, ("sign", 0, 1), S), ("swung", 0, 1, 2), (("tie", 1, 0),)),
            ((look, S, ("where", 0, F), S), ("swung", 1, 2, 3), (look, ("where", 0, ("turn", 0, 4)))),
            ((look, S, ("where", 0, ("turn", 0, 4)), S), ("swung", 1, 2, 3), (look, ("where", 0, F))),
            ((S, look, F, ("flip", 1), S), ("swung", 0, 2, 4), (look, ("turn", 0, 4), ("flip", 1))),
            ((("sign", 0, 1), T, ("sign", 1, 0)), ("gone", 0, 2), (T,)))
        for rows, step, due in told:
            self.assertEqual(slid((2, rows), step), (2, due), rows)
            self.check_slid((2, rows), step)

    def test_each_step_leaves_the_very_branches(self):
        chance = random.Random(4)
        kinds, wheres = [], 0
        for turn in range(250):
            wires = chance.randint(1, 3)
            circuit = repeating_circuit(chance, wires, chance.randint(2, 12), chance.choice((0, 1, 2)))
            steps = slides_of(circuit)
            for step in chance.sample(steps, min(3, len(steps))):
                told = self.check_slid(circuit, step)
                for place in range(2 ** wires):
                    self.assertEqual(branches(told, place), branches(circuit, place), (circuit, step))
                kinds.append(step[0])
                wheres += circuit[1][step[-1]][0] == "where" or circuit[1][step[-2]][0] == "where"
        self.assertGreater(min(kinds.count(kind) for kind in ("gone", "joined", "swung")), 15)
        self.assertGreater(wheres, 5)

    def test_steps_of_three_rows_leave_the_very_branches(self):
        # All rows that may stand between two swings, beside all others on three wires.
        for row in all_rows(3):
            for beside in (("turn", 2, 1), ("flip", 2), ("tie", 2, 1)):
                circuit = (3, (("look", 1), ("look", 2), ("swing", 2), ("swing", 0), beside, row, ("swing", 0)))
                for step in slides_of(circuit):
                    told = self.check_slid(circuit, step)
                    for place in range(8):
                        self.assertEqual(branches(told, place), branches(circuit, place), (circuit, step))

    def test_steps_that_do_not_fit(self):
        circuit = (2, (S, F, S, T, T, ("tie", 0, 1), ("look", 1), ("look", 1), S, S))
        fitting = [("gone", 8, 9), ("joined", 3, 4), ("swung", 0, 1, 2)]
        self.assertEqual(slides_of(circuit), fitting)
        numbers = (-10, -9, -7, -2, -1, 0, 1, 2, 3, 4, 5, 6, 7, 8, 9, 10, MANY, -MANY)
        for p, q in itertools.product(numbers, numbers):
            for step in (("gone", p, q), ("joined", p, q), ("swung", p, q, 2), ("swung", 0, p, q), ("swung", p, 1, q)):
                if step in fitting:
                    self.check_slid(circuit, step)
                else:
                    self.check_no_step(circuit, step)

    def test_every_other_step_is_refused(self):
        chance = random.Random(5)
        for turn in range(25):
            circuit = repeating_circuit(chance, chance.randint(1, 2), 7, chance.choice((0, 1)))
            askew = [("gone", 3, 3), ("joined", 2, 2), ("gone", 4, 1), ("swung", 2, 1, 0), ("swung", 0, 0, 2)]
            for step in all_steps(8) + askew:
                due = model_slide(circuit, step)
                if due is None:
                    self.check_no_step(circuit, step)
                else:
                    self.assertEqual(slid(circuit, step), due)

    def test_no_rows(self):
        for step in (("gone", 0, 1), ("joined", 0, 1), ("swung", 0, 1, 2), ("gone", -2, -1), ("gone", 0, 0)):
            self.check_no_step((1, ()), step)


class Telling(SlideCase):
    def test_what_was_handed_in_stays_and_the_same_is_told_alike(self):
        circuit = (2, (S, F, S, T, T))
        asks = (
            (slides_of, (circuit,)), (slid, (circuit, ("swung", 0, 1, 2))), (slid, (circuit, ("joined", 3, 4))),
            (lets_by, (S, F)), (lets_by, (("look", 0), ("where", 1, F), 1)))
        check_told_alike(self, asks)

    def test_a_list_that_was_told_and_changed_changes_nothing_later(self):
        circuit = (1, (S, S))
        told = slides_of(circuit)
        self.assertIsNot(slides_of(circuit), told)
        told[0] = None
        told.append(("gone", 5, 6))
        self.assertEqual(slides_of(circuit), [("gone", 0, 1)])
        none = slides_of((1, ()))
        none.append(None)
        self.assertEqual(slides_of((1, ())), [])

    def test_arguments_are_those_of_the_interface(self):
        told = ((lets_by, "(one, other, mark=None)"), (slides_of, "(circuit)"), (slid, "(circuit, step)"))
        check_arguments(self, slides, told)


if __name__ == "__main__":
    unittest.main()
