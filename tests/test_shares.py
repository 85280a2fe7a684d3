"""Shares, their papers, and how they are found."""

import copy
import itertools
import random
import unittest
from fractions import Fraction

from nonebetter.corners import corner
from nonebetter.judge import rows_told
from nonebetter.rows import kept
from nonebetter.shares import share, share_lines, shares

GREAT = 10 ** 18 - 1


def share_slowly(rows, times, by):
    """The share, word by word as it is told."""
    numbers = [sum(row[0][choice] * many for row, many in zip(rows, times)) for choice in range(len(rows[0][0]))]
    least = Fraction(sum(row[1] * many for row, many in zip(rows, times)), by)
    raised = []
    for number in numbers:
        while number % by != 0:
            number += 1
        raised.append(number // by)
    return (tuple(raised), least.__ceil__())


def some_rows(chance, count, many, size):
    return [
        (tuple(chance.choice((0, 1, 1)) * chance.randint(-size, size) for _ in range(count)), chance.randint(-size, size))
        for _ in range(many)
    ]


def points(count):
    return itertools.product((0, 1), repeat=count)


def summed(numbers, worths):
    return sum(number * worth for number, worth in zip(numbers, worths))


class Share(unittest.TestCase):
    def assert_share(self, rows, times, by, asked):
        ahead = copy.deepcopy(rows)
        told = share(rows, times, by)
        self.assertEqual(rows, ahead)
        self.assertEqual(told, asked)
        self.assertEqual([type(told), len(told), type(told[0]), type(told[1])], [tuple, 2, tuple, int])
        for number in told[0]:
            self.assertIs(type(number), int)

    def test_one_row(self):
        row = ((3, 4, 0, 1), 5)
        self.assert_share([row], (1,), 1, row)
        self.assert_share([row], (1,), 2, ((2, 2, 0, 1), 3))
        self.assert_share([row], (1,), 3, ((1, 2, 0, 1), 2))
        self.assert_share([row], (1,), 5, ((1, 1, 0, 1), 1))
        self.assert_share([row], (1,), 99, ((1, 1, 0, 1), 1))
        self.assert_share([row], (3,), 1, ((9, 12, 0, 3), 15))
        self.assert_share([row], (3,), 2, ((5, 6, 0, 2), 8))

    def test_several_rows(self):
        rows = [((1, 1, 0), 1), ((0, 1, 1), 1), ((1, 0, 1), 1)]
        self.assert_share(rows, (1, 1, 1), 2, ((1, 1, 1), 2))
        self.assert_share(rows, (1, 1, 0), 2, ((1, 1, 1), 1))
        self.assert_share(rows, (2, 3, 4), 1, ((6, 5, 7), 9))
        self.assert_share(rows, (2, 3, 4), 5, ((2, 1, 2), 2))
        self.assert_share(rows, (2, 3, 4), 6, ((1, 1, 2), 2))

    def test_below_nought_each_is_rounded_up(self):
        self.assert_share([((-3, -4, -1), -5)], (1,), 2, ((-1, -2, 0), -2))
        self.assert_share([((-3, -4, -1), -6)], (1,), 3, ((-1, -1, 0), -2))
        self.assert_share([((-3, 5), -7)], (1,), 4, ((0, 2), -1))
        self.assert_share([((-3, 5), -8)], (1,), 4, ((0, 2), -2))
        self.assert_share([((-3, 5), -1), ((1, -9), 0)], (1, 1), 3, ((0, -1), 0))

    def test_times_of_nought(self):
        rows = [((5, -7), 9), ((1, 2), 3)]
        for by in (1, 2, GREAT):
            self.assert_share(rows, (0, 0), by, ((0, 0), 0))
        self.assert_share(rows, (0, 1), 1, rows[1])
        self.assert_share(rows, (1, 0), 7, ((1, -1), 2))

    def test_no_choices(self):
        self.assert_share([((), 7)], (1,), 2, ((), 4))
        self.assert_share([((), -7)], (1,), 2, ((), -3))
        self.assert_share([((), -7), ((), 8)], (2, 1), 3, ((), -2))
        self.assert_share([((), -7)], (0,), 3, ((), 0))

    def test_eighteen_figures(self):
        self.assert_share([((GREAT, -GREAT), GREAT)], (GREAT,), GREAT, ((GREAT, -GREAT), GREAT))
        self.assert_share([((GREAT, -GREAT), GREAT)], (1,), GREAT - 1, ((2, -1), 2))
        self.assert_share([((GREAT, -GREAT), -GREAT)], (1,), GREAT + 1, ((1, 0), 0))
        self.assert_share([((GREAT,) * 60, GREAT)] * 400, (1,) * 400, 2, ((200 * GREAT,) * 60, 200 * GREAT))

    def test_word_by_word(self):
        chance = random.Random(60)
        for _ in range(500):
            count = chance.randint(0, 5)
            rows = some_rows(chance, count, chance.randint(1, 4), 9)
            times = tuple(chance.choice((0, 1, 2, 7)) for _ in rows)
            by = chance.choice((1, 2, 3, 5, 8, 30))
            self.assert_share(rows, times, by, share_slowly(rows, times, by))

    def test_points_that_keep_the_rows_keep_it(self):
        chance = random.Random(61)
        held = 0
        for _ in range(300):
            count = chance.randint(1, 5)
            rows = some_rows(chance, count, chance.randint(1, 3), 4)
            told = [
                share(rows, tuple(chance.randint(0, 3) for _ in rows), chance.randint(1, 6)) for _ in range(5)
            ]
            for point in points(count):
                if all(kept(row, point) for row in rows):
                    held += 1
                    for row in told:
                        self.assertTrue(kept(row, point), (rows, row, point))
        self.assertGreater(held, 500)


class ShareLines(unittest.TestCase):
    # Once each the rows' numbers add up to (3, 0, 6, 0): to multiples of 3, not of 2.
    PROBLEM = ([((1, -2, 4, 0), 2), ((2, 2, 2, 0), -3)], (4, -4, 0, 7))

    def assert_lines(self, problem, best, times, by):
        ahead = copy.deepcopy(problem)
        paper = share_lines(problem, best, times, by)
        self.assertEqual(problem, ahead)
        self.assertIs(type(paper), list)
        told = rows_told(problem, best, paper)
        self.assertEqual(len(told), len(paper), (problem, best, times, by))
        self.assertEqual(told[-1], share_slowly(problem[0], times, by))
        return paper

    def test_multiples_and_numbers_to_be_raised(self):
        for best in (None, -3, 0, 12):
            for times in ((1, 1), (1, 0), (0, 1), (2, 2), (5, 7)):
                for by in (1, 2, 3, 4, 11):
                    self.assert_lines(self.PROBLEM, best, times, by)
        self.assertEqual(rows_told(self.PROBLEM, None, share_lines(self.PROBLEM, None, (1, 1), 3))[-1], ((1, 0, 2, 0), 0))

    def test_all_times_nought(self):
        for best in (None, 5):
            for by in (1, 2, 9):
                self.assert_lines(self.PROBLEM, best, (0, 0), by)
        self.assert_lines(([((), 4)], ()), None, (0,), 3)
        self.assert_lines(([((5,), 4)], (0,)), 7, (0,), 1)

    def test_no_choices(self):
        for best in (None, 0, 5):
            self.assert_lines(([((), 4), ((), -9)], ()), best, (3, 2), 4)
            self.assert_lines(([((), 4), ((), -9)], ()), best, (3, 0), 1)

    def test_sizes(self):
        rows = [((GREAT,) * 59 + (-choice,), -GREAT) for choice in range(400)]
        paper = share_lines((rows, (GREAT,) * 60), GREAT, (GREAT,) * 400, 7)
        told = rows_told((rows, (GREAT,) * 60), GREAT, paper)
        self.assertEqual(len(told), len(paper))
        self.assertEqual(told[-1], share(rows, (GREAT,) * 400, 7))

    def test_the_row_of_best_may_stand_behind_the_others(self):
        rows = self.PROBLEM[0] + [((-4, 4, 0, -7), -8)]
        paper = share_lines(self.PROBLEM, 9, (1, 2, 3), 5)
        self.assertEqual(rows_told(self.PROBLEM, 9, paper)[-1], share_slowly(rows, (1, 2, 3), 5))

    def test_many_problems(self):
        chance = random.Random(62)
        for _ in range(500):
            count = chance.randint(0, 5)
            rows = some_rows(chance, count, chance.randint(1, 5), 9)
            problem = (rows, tuple(chance.randint(-5, 5) for _ in range(count)))
            times = tuple(chance.choice((0, 0, 1, 1, 2, 5)) for _ in rows)
            self.assert_lines(problem, chance.choice((None, 0, 3, -8)), times, chance.choice((1, 2, 3, 6, 10)))

    def test_lists_are_new_ones(self):
        paper = share_lines(self.PROBLEM, None, (1, 1), 4)
        asked = copy.deepcopy(paper)
        lists = [paper] + [part for line in paper for part in line if isinstance(part, list)]
        self.assertGreater(len(lists), 1)
        self.assertEqual(len({id(part) for part in lists}), len(lists))
        for part in lists[1:] + lists[:1]:
            part.clear()
        self.assertEqual(share_lines(self.PROBLEM, None, (1, 1), 4), asked)

    def test_changing_what_was_handed_in_behind(self):
        problem = copy.deepcopy(self.PROBLEM)
        paper = share_lines(problem, 3, (1, 1), 4)
        problem[0].clear()
        self.assertEqual(paper, share_lines(self.PROBLEM, 3, (1, 1), 4))


class Shares(unittest.TestCase):
    def assert_shares(self, rows, spread):
        """All that is told of shares; tells how many there are."""
        ahead = copy.deepcopy((rows, spread))
        told = shares(rows, spread)
        self.assertEqual((rows, spread), ahead)
        self.assertIs(type(told), list)
        worths = [Fraction(*part) for part in spread]
        for thing in told:
            self.assertEqual([type(thing), len(thing), type(thing[0]), type(thing[1])], [tuple, 2, tuple, int])
            times, by = thing
            self.assertEqual(len(times), len(rows))
            for many in times:
                self.assertIs(type(many), int)
                self.assertGreaterEqual(many, 0)
            self.assertGreaterEqual(by, 1)
            row = share_slowly(rows, times, by)
            self.assertLess(summed(row[0], worths), row[1], (rows, spread, thing))
        again = shares(rows, spread)
        self.assertEqual(again, told)
        self.assertIsNot(again, told)
        told.append(None)
        self.assertEqual(shares(rows, spread), again)
        return len(again)

    def test_points_that_keep_the_rows_keep_all_shares(self):
        chance = random.Random(63)
        seen = 0
        for _ in range(200):
            count = chance.randint(0, 4)
            rows = some_rows(chance, count, chance.randint(1, 4), 6)
            for point in points(count):
                found = self.assert_shares(rows, tuple((worth, 1) for worth in point))
                if all(kept(row, point) for row in rows):
                    seen += 1
                    self.assertEqual(found, 0)
        self.assertGreater(seen, 100)

    def test_one_row(self):
        half = (1, 2)
        self.assertGreater(self.assert_shares([((2,), 1)], (half,)), 0)
        self.assertGreater(self.assert_shares([((-2,), -1)], (half,)), 0)
        self.assertGreater(self.assert_shares([((3, 3), 4)], ((1, 3), (1, 1))), 0)
        self.assertGreater(self.assert_shares([((6, 4), 5)], ((1, 6), (1, 1))), 0)
        self.assertGreater(self.assert_shares([((GREAT, GREAT), 1)], ((1, GREAT), (0, 1))), 0)
        # Rows that can spare something.
        self.assertGreater(self.assert_shares([((3, 3, 3), 4)], (half, half, half)), 0)
        self.assertGreater(self.assert_shares([((8, 3, -1), 4)], ((3, 5), (0, 1), (0, 1))), 0)

    def test_rings(self):
        for count in (3, 5, 9):
            for sign in (1, -1):
                rows = [
                    (tuple(sign if choice in (first, (first + 1) % count) else 0 for choice in range(count)), sign)
                    for first in range(count)
                ]
                self.assertGreater(self.assert_shares(rows, ((1, 2),) * count), 0)
        # Of an even ring all halves lie between two points.
        rows = [(tuple(1 if choice in (first, (first + 1) % 4) else 0 for choice in range(4)), 1) for first in range(4)]
        self.assertEqual(self.assert_shares(rows, ((1, 2),) * 4), 0)

    def test_a_choice_at_nought_does_not_count(self):
        rows = [((-1, -1, 0, -1), -1), ((0, -1, -1, 0), -1), ((-1, 0, -1, 0), -1)]
        self.assertGreater(self.assert_shares(rows, ((1, 2), (1, 2), (1, 2), (0, 1))), 0)

    def test_thirds(self):
        # Three times all choices come to 4 or more, so two of them are needed.
        rows = [(tuple(0 if choice == left else 1 for choice in range(4)), 1) for left in range(4)]
        self.assertGreater(self.assert_shares(rows, ((1, 3),) * 4), 0)

    def test_a_spread_that_does_not_keep_the_rows(self):
        self.assert_shares([((1, 1), 2), ((-1, 0), 0)], ((1, 3), (2, 7)))
        self.assert_shares([((0, 0), 5)], ((0, 1), (1, 1)))

    def test_no_choices_and_no_rows(self):
        self.assertEqual(self.assert_shares([], ()), 0)
        self.assertEqual(self.assert_shares([], ((1, 2), (0, 1))), 0)
        self.assertEqual(self.assert_shares([((), 0), ((), -3)], ()), 0)
        self.assert_shares([((), 2)], ())

    def test_corners(self):
        chance = random.Random(64)
        torn = 0
        found = 0
        for _ in range(1500):
            count = chance.randint(1, 7)
            worths = [Fraction(chance.randint(0, 6), 6) for _ in range(count)]
            rows = []
            for row in some_rows(chance, count, chance.randint(1, 8), chance.choice((1, 2, 9))):
                rows.append((row[0], summed(row[0], worths) // 1))
            spread = corner(rows, tuple(chance.randint(-5, 5) for _ in range(count)))[1]
            here = self.assert_shares(rows, spread)
            if any(part[1] > 1 for part in spread):
                torn += 1
                found += here > 0
            else:
                self.assertEqual(here, 0)
        self.assertGreater(torn, 300)
        # How many are found is not promised; that many are is what shares are there for.
        self.assertGreater(2 * found, torn)

    def test_any_spread(self):
        chance = random.Random(65)
        for _ in range(300):
            count = chance.randint(1, 5)
            spread = []
            for _ in range(count):
                below = chance.choice((1, 2, 3, 4, 6, 7))
                part = Fraction(chance.randint(0, below), below)
                spread.append((part.numerator, part.denominator))
            self.assert_shares(some_rows(chance, count, chance.randint(0, 6), 5), tuple(spread))

    def test_sizes(self):
        chance = random.Random(66)
        rows = some_rows(chance, 60, 400, GREAT)
        self.assert_shares(rows, tuple(chance.choice(((0, 1), (1, 2), (1, 1))) for _ in range(60)))
        pairs = [
            (tuple(-1 if choice in pair else 0 for choice in range(60)), -1)
            for pair in itertools.combinations(range(28), 2)
        ]
        self.assertGreater(self.assert_shares(pairs, ((1, 2),) * 28 + ((1, 1),) * 32), 0)


if __name__ == "__main__":
    unittest.main()
