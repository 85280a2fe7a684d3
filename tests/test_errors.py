"""The refusals: what they stand under, and the rows they keep."""

import unittest

from nonebetter.errors import NoBook, NoNumber, NoPicture, NoStep, PlanError
from nonebetter.ratios import over, ratio

REFUSALS = (NoNumber, NoStep, NoPicture, NoBook)


def made(refusal):
    return refusal(3) if refusal in (NoPicture, NoBook) else refusal("some words")


class Refusals(unittest.TestCase):
    def test_any_refusal_stands_straight_under_value_error(self):
        self.assertEqual(PlanError.__bases__, (ValueError,))

    def test_each_stands_straight_under_plan_error(self):
        for refusal in REFUSALS:
            self.assertEqual(refusal.__bases__, (PlanError,), refusal)

    def test_each_is_caught_as_plan_error_and_as_value_error(self):
        for refusal in REFUSALS:
            for above in (refusal, PlanError, ValueError):
                with self.assertRaises(above):
                    raise made(refusal)

    def test_none_is_caught_as_another(self):
        for refusal in REFUSALS:
            for other in REFUSALS:
                if other != refusal:
                    self.assertNotIsInstance(made(refusal), other)

    def test_plan_error_is_none_of_the_others(self):
        for refusal in REFUSALS:
            self.assertNotIsInstance(PlanError("some words"), refusal)

    def test_those_without_a_row_are_made_with_and_without_words(self):
        for refusal in (PlanError, NoNumber, NoStep):
            self.assertIsInstance(refusal(), refusal)
            self.assertIsInstance(refusal("some words"), refusal)


class RowsOfRefusals(unittest.TestCase):
    def test_the_row_is_kept(self):
        for refusal in (NoPicture, NoBook):
            for row in (0, 1, 7, 499):
                self.assertEqual(refusal(row).row, row)

    def test_the_row_is_kept_where_it_is_caught(self):
        for refusal in (NoPicture, NoBook):
            for above in (refusal, PlanError, ValueError):
                with self.assertRaises(above) as caught:
                    raise refusal(12)
                self.assertEqual(caught.exception.row, 12)

    def test_each_keeps_its_own(self):
        one = NoBook(1)
        other = NoBook(2)
        self.assertEqual((one.row, other.row), (1, 2))


class RefusalsThatAreRaised(unittest.TestCase):
    def test_a_refused_number_is_caught_as_no_number_and_all_above(self):
        for refused in (lambda: ratio(1, 0), lambda: over((1, 2), (0, 1))):
            for above in (NoNumber, PlanError, ValueError):
                self.assertRaises(above, refused)

    def test_a_refused_number_is_caught_as_no_other_refusal(self):
        for refused in (lambda: ratio(1, 0), lambda: over((1, 2), (0, 1))):
            with self.assertRaises(PlanError) as caught:
                refused()
            self.assertNotIsInstance(caught.exception, (NoStep, NoPicture, NoBook, ZeroDivisionError))


if __name__ == "__main__":
    unittest.main()
