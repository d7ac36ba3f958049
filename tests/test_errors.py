"""[0.4] The refusals."""

import unittest

from wavewires import errors
from wavewires.errors import (
    BadRow, Barred, HasLooks, NoPaper, NoStep, OddTurn, StillHidden, TooGreat, UnlikeWires, WaveError)

REFUSALS = (HasLooks, UnlikeWires, TooGreat, NoStep, OddTurn, Barred, NoPaper, StillHidden, BadRow)


class Refusals(unittest.TestCase):
    def test_wave_error_stands_straight_under_value_error(self):
        self.assertEqual(WaveError.__bases__, (ValueError,))

    def test_each_refusal_stands_straight_under_wave_error(self):
        for refusal in REFUSALS:
            self.assertEqual(refusal.__bases__, (WaveError,), refusal)

    def test_none_stands_under_another_one(self):
        for refusal in REFUSALS:
            others = [other for other in REFUSALS if other is not refusal]
            self.assertFalse(issubclass(refusal, tuple(others)), refusal)

    def test_there_are_no_others(self):
        classes = [found for found in vars(errors).values() if isinstance(found, type)]
        self.assertEqual(sorted(c.__name__ for c in classes), sorted(c.__name__ for c in REFUSALS + (WaveError,)))

    def test_names_are_those_of_the_interface(self):
        for refusal in REFUSALS + (WaveError,):
            self.assertIs(getattr(errors, refusal.__name__), refusal)

    def test_plain_refusals_are_raised_and_taken(self):
        for refusal in REFUSALS[:-1]:
            for made in (refusal(), refusal("some words")):
                for taken in (refusal, WaveError, ValueError):
                    with self.assertRaises(taken):
                        raise made

    def test_bad_row_keeps_its_row(self):
        for row in (1, 2, 62, 10 ** 299):
            with self.assertRaises(WaveError) as taken:
                raise BadRow(row)
            self.assertIs(type(taken.exception), BadRow)
            self.assertEqual(taken.exception.row, row)
        self.assertEqual(BadRow(row=7).row, 7)

    def test_bad_row_wants_a_row(self):
        with self.assertRaises(TypeError):
            BadRow()

    def test_each_bad_row_keeps_its_own(self):
        first = BadRow(3)
        second = BadRow(4)
        self.assertEqual((first.row, second.row), (3, 4))


if __name__ == "__main__":
    unittest.main()
