"""Passing on, and its papers."""

import copy
import itertools
import random
import unittest

from nonebetter.judge import judged, rows_told
from nonebetter.passing import passed, passed_lines
from nonebetter.rows import cost_of, keeps, most_of

GREAT = 10 ** 18 - 1


def breaks(row, holds):
    return most_of(row, holds) < row[1]


def passed_slowly(rows, holds):
    """Passing on, word by word as it is told."""
    held = list(holds)
    forced = []
    count = len(rows[0][0]) if rows else 0
    while True:
        broken = [number for number, row in enumerate(rows) if breaks(row, held)]
        if broken:
            return (forced, broken[0])
        steps = [
            (number, choice, worth)
            for number, row in enumerate(rows)
            for choice in range(count)
            for worth in (0, 1)
            if choice not in dict(held) and breaks(row, held + [(choice, 1 - worth)])
        ]
        if not steps:
            return (forced, None)
        number, choice, worth = min(steps)
        forced.append((choice, worth, number))
        held.append((choice, worth))


def shut_out(count, holds):
    numbers = [0] * count
    for choice, worth in holds:
        numbers[choice] = -1 if worth == 1 else 1
    return (tuple(numbers), 1 - sum(worth for _, worth in holds))


def some_problem(chance):
    count = chance.randint(0, 6)
    size = chance.choice((1, 3, 6))
    numbers = [
        tuple(chance.choice((0, 1)) * chance.randint(-size, size) for _ in range(count))
        for _ in range(chance.randint(1, 8))
    ]
    # Most rows can spare a little: they do not break at once, but force something.
    rows = [(here, most_of((here, 0), []) - chance.randint(-1, 2 * size) // 2) for here in numbers[1:]]
    return (rows, numbers[0])


def some_holds(chance, count):
    held = chance.sample(range(count), chance.randint(0, count) // chance.choice((1, 2, 9)))
    return [(choice, chance.randint(0, 1)) for choice in held]


class Passed(unittest.TestCase):
    def assert_passed(self, rows, holds, forced, broken):
        ahead = copy.deepcopy((rows, holds))
        told = passed(rows, holds)
        self.assertEqual((rows, holds), ahead)
        self.assertEqual(told, (forced, broken))
        self.assertEqual((type(told), type(told[0]), type(told[1])), (tuple, list, type(broken)))
        for step in told[0]:
            self.assertEqual([type(step)] + [type(part) for part in step], [tuple, int, int, int])

    def test_no_rows_and_no_holds(self):
        self.assert_passed([], [], [], None)
        self.assert_passed([], [(0, 1), (4, 0)], [], None)
        self.assert_passed([((1, 1), 1)], [], [], None)
        self.assert_passed([((), 0)], [], [], None)

    def test_a_row_that_breaks_at_once(self):
        self.assert_passed([((1, 1), 3)], [], [], 0)
        self.assert_passed([((1, 1), 2)], [(0, 0)], [], 0)
        self.assert_passed([((1, 1), 0), ((-1, -1), 0)], [(1, 1)], [], 1)
        self.assert_passed([((), 0), ((), 1)], [], [], 1)

    def test_the_most_that_is_the_least_does_not_break(self):
        self.assert_passed([((1, 1), 2)], [(0, 1), (1, 1)], [], None)
        self.assert_passed([((-1, -1), -1)], [(1, 1), (0, 0)], [], None)
        self.assert_passed([((3, -2), 1)], [(1, 1), (0, 1)], [], None)

    def test_forced_to_one_and_to_nought(self):
        self.assert_passed([((3, 1), 3)], [], [(0, 1, 0)], None)
        self.assert_passed([((-3, -1), -2)], [], [(0, 0, 0)], None)
        self.assert_passed([((3, -3), 1)], [], [(0, 1, 0), (1, 0, 0)], None)
        self.assert_passed([((2, 2), 1)], [(1, 0)], [(0, 1, 0)], None)
        self.assert_passed([((-1, -1), -1)], [(0, 1)], [(1, 0, 0)], None)

    def test_just_forced_and_just_not(self):
        self.assert_passed([((4, 3, 2), 5)], [], [], None)
        self.assert_passed([((4, 3, 2), 6)], [], [(0, 1, 0)], None)
        self.assert_passed([((4, 3, 2), 7)], [], [(0, 1, 0), (1, 1, 0)], None)
        self.assert_passed([((-4, -3, -2), -4)], [], [], None)
        self.assert_passed([((-4, -3, -2), -3)], [], [(0, 0, 0)], None)
        self.assert_passed([((-4, -3, -2), -2)], [], [(0, 0, 0), (1, 0, 0)], None)
        self.assert_passed([((3, 3, 3), 6)], [], [], None)
        self.assert_passed([((3, 3, 3), 7)], [], [(0, 1, 0), (1, 1, 0), (2, 1, 0)], None)

    def test_the_least_row_and_of_it_the_least_choice_first(self):
        rows = [((0, 0, 0, 1), 0), ((0, 0, 1, 1), 2), ((1, 1, 0, 0), 2)]
        self.assert_passed(rows, [], [(2, 1, 1), (3, 1, 1), (0, 1, 2), (1, 1, 2)], None)
        rows.reverse()
        self.assert_passed(rows, [], [(0, 1, 0), (1, 1, 0), (2, 1, 1), (3, 1, 1)], None)

    def test_an_earlier_row_goes_first_as_soon_as_it_forces(self):
        # The second row forces choice 0, with it the first one choice 2, only then the second one choice 1.
        rows = [((-1, 0, -1), -1), ((1, 1, 0), 2)]
        self.assert_passed(rows, [], [(0, 1, 1), (2, 0, 0), (1, 1, 1)], None)

    def test_several_steps_on_end(self):
        chain = [(tuple(-1 if here == i else (1 if here == i + 1 else 0) for here in range(6)), 0) for i in range(5)]
        steps = [(i + 1, 1, i) for i in range(5)]
        self.assert_passed(chain, [(0, 1)], steps, None)
        self.assert_passed(chain[::-1], [(0, 1)], [(i + 1, 1, 4 - i) for i in range(5)], None)
        self.assert_passed(chain, [(5, 0)], [(i, 0, i) for i in range(4, -1, -1)], None)
        self.assert_passed(chain, [(0, 1), (5, 0)], [(1, 1, 0), (2, 1, 1), (3, 1, 2), (4, 1, 3)], 4)

    def test_broken_by_the_least_of_several(self):
        self.assert_passed([((1,), 0), ((1,), 3), ((1,), 2)], [], [], 1)
        rows = [((1, 0), 1), ((-1, 1), 0), ((-1, -1), -1), ((0, -1), 0)]
        self.assert_passed(rows, [], [(0, 1, 0), (1, 1, 1)], 2)
        self.assert_passed(rows[:2] + rows[3:] + rows[2:3], [], [(0, 1, 0), (1, 1, 1)], 2)

    def test_it_ends_as_soon_as_it_is_broken(self):
        # Choice 2 would be forced by the first row, but that the last one is broken already.
        rows = [((0, 0, 1), 1), ((1, 1, 0), 2), ((-1, -1, 0), -1)]
        self.assert_passed(rows, [], [(2, 1, 0), (0, 1, 1), (1, 1, 1)], 2)
        self.assert_passed(rows, [(0, 1), (1, 1)], [], 2)

    def test_nothing_forced(self):
        self.assert_passed([((1, 1), 1), ((-1, -1), -1)], [], [], None)
        self.assert_passed([((1, 1), 1)], [(0, 1)], [], None)
        self.assert_passed([((1, 1), 2)], [(0, 1), (1, 1)], [], None)

    def test_held_choices_are_not_forced(self):
        self.assert_passed([((5, 1), 5)], [(0, 1)], [], None)
        self.assert_passed([((-5, 1), -4)], [(0, 0)], [], None)

    def test_rows_of_noughts(self):
        self.assert_passed([((0, 0), 0), ((0, 0), -1)], [], [], None)
        self.assert_passed([((0, 0), 0), ((0, 0), 1)], [], [], 1)
        self.assert_passed([((0, 0), 0), ((0, 2), 1)], [(0, 1)], [(1, 1, 1)], None)

    def test_holds_in_any_order(self):
        rows = [((2, -1, 3, -2, 1), 2), ((-1, 1, 0, 1, -1), 1), ((0, 0, 1, 1, 1), 1)]
        for holds in ([(0, 0), (3, 1), (4, 0)], [(1, 1), (2, 1), (0, 1)], [(4, 1), (3, 0), (1, 1)]):
            told = passed(rows, holds)
            for order in itertools.permutations(holds):
                self.assertEqual(passed(rows, list(order)), told)

    def test_eighteen_figures(self):
        self.assert_passed([((GREAT, GREAT, 1), 2 * GREAT)], [], [(0, 1, 0), (1, 1, 0)], None)
        self.assert_passed([((GREAT, GREAT, 1), 2 * GREAT + 1)], [], [(0, 1, 0), (1, 1, 0), (2, 1, 0)], None)
        self.assert_passed([((GREAT, GREAT, 1), 2 * GREAT + 2)], [], [], 0)
        self.assert_passed([((-GREAT, GREAT), GREAT)], [], [(0, 0, 0), (1, 1, 0)], None)

    def test_as_it_is_told_word_by_word(self):
        chance = random.Random(30)
        lengths = {}
        for _ in range(3000):
            problem = some_problem(chance)
            holds = some_holds(chance, len(problem[1]))
            asked = passed_slowly(problem[0], holds)
            self.assertEqual(passed(problem[0], holds), asked, (problem, holds))
            kind = (len(asked[0]) > 1, asked[1] is None)
            lengths[kind] = lengths.get(kind, 0) + 1
        self.assertEqual(len(lengths), 4)
        self.assertGreater(min(lengths.values()), 50, lengths)

    def test_sixty_choices_and_four_hundred_rows(self):
        chain = [(tuple(-1 if here == i else (1 if here == i + 1 else 0) for here in range(60)), 0) for i in range(59)]
        rows = [((1,) * 60, 1)] * 341 + chain[::-1]
        self.assertEqual(passed(rows, [(0, 1)]), ([(i + 1, 1, 399 - i) for i in range(59)], None))


class PassedLines(unittest.TestCase):
    def assert_shut_out(self, problem, best, holds):
        ahead = copy.deepcopy((problem, best, holds))
        paper = passed_lines(problem, best, holds)
        self.assertEqual((problem, best, holds), ahead)
        self.assertIs(type(paper), list)
        told = rows_told(problem, best, paper)
        self.assertEqual(len(told), len(paper), (problem, best, holds, paper))
        self.assertEqual(told[-1], shut_out(len(problem[1]), holds), (problem, best, holds, paper))
        return paper

    def assert_none(self, problem, best, holds):
        ahead = copy.deepcopy((problem, best, holds))
        self.assertIsNone(passed_lines(problem, best, holds))
        self.assertEqual((problem, best, holds), ahead)

    def test_broken_at_once(self):
        problem = ([((0, 0, 0), 0), ((1, 1, 1), 2)], (1, 1, 1))
        for holds in ([(0, 0), (1, 0)], [(2, 0), (0, 0)], [(0, 0), (1, 0), (2, 0)], [(2, 1), (1, 0), (0, 0)]):
            self.assert_shut_out(problem, None, holds)

    def test_broken_behind_steps(self):
        problem = ([((1, 1, 0), 1), ((-1, 0, 1), 0), ((0, -1, 1), 0), ((0, 0, -1), 0)], (0, 0, 0))
        self.assert_shut_out(problem, None, [])
        self.assertIsNone(judged(problem, None, passed_lines(problem, None, [])))
        self.assert_shut_out(problem, None, [(0, 1)])
        self.assert_shut_out(problem, None, [(1, 0)])
        self.assert_shut_out(problem, None, [(1, 1), (0, 0)])
        self.assert_shut_out(problem, None, [(2, 1)])

    def test_not_broken(self):
        problem = ([((1, 1), 1), ((-1, -1), -1)], (5, 3))
        for holds in ([], [(0, 0)], [(0, 1)], [(1, 1), (0, 0)]):
            self.assert_none(problem, None, holds)
        self.assert_shut_out(problem, None, [(0, 0), (1, 0)])
        self.assert_shut_out(problem, None, [(0, 1), (1, 1)])

    def test_no_rows_and_no_choices(self):
        self.assert_none(([], (1, 2)), None, [(0, 1)])
        self.assert_none(([], ()), None, [])
        self.assert_none(([], ()), 1, [])
        self.assert_shut_out(([], ()), 0, [])
        self.assert_none(([((), 0)], ()), None, [])
        self.assert_shut_out(([((), 0), ((), 1)], ()), None, [])

    def test_best(self):
        problem = ([((1, 1), 1)], (5, 3))
        self.assert_none(problem, None, [(1, 0)])
        self.assert_none(problem, 6, [(1, 0)])
        self.assert_shut_out(problem, 5, [(1, 0)])
        self.assert_none(problem, 4, [])
        self.assert_shut_out(problem, 3, [])
        self.assert_shut_out(problem, 3, [(0, 0)])
        self.assert_shut_out(problem, 0, [])
        self.assert_shut_out(problem, -7, [(1, 1)])
        self.assert_shut_out(([], (-5, 3)), -5, [])
        self.assert_none(([], (-5, 3)), -4, [])

    def test_the_row_of_better_stands_behind_the_others(self):
        # With choice 0 at 1 both are broken; the row of the problem has the lesser number.
        problem = ([((-1,), 0)], (5,))
        self.assertEqual(passed_lines(problem, 5, [(0, 1)])[0], ("given", 0))

    def test_as_passing_on_ends(self):
        chance = random.Random(31)
        seen = {}
        for _ in range(3000):
            problem = some_problem(chance)
            best = chance.choice((None, chance.randint(-8, 8)))
            holds = some_holds(chance, len(problem[1]))
            rows = problem[0] + ([] if best is None else [(tuple(-cost for cost in problem[1]), 1 - best)])
            forced, broken = passed_slowly(rows, holds)
            if broken is None:
                self.assert_none(problem, best, holds)
            else:
                paper = self.assert_shut_out(problem, best, holds)
                if not holds:
                    self.assertIsNone(judged(problem, best, paper))
                    for point in itertools.product((0, 1), repeat=len(problem[1])):
                        self.assertFalse(keeps(problem, point) and (best is None or cost_of(problem, point) < best))
            kind = (broken is None, best is None, len(holds) > 0, len(forced) > 0)
            seen[kind] = seen.get(kind, 0) + 1
        self.assertEqual(len(seen), 16)
        self.assertGreater(min(seen.values()), 10, seen)

    def test_sixty_choices(self):
        chain = [(tuple(-1 if here == i else (1 if here == i + 1 else 0) for here in range(60)), 0) for i in range(59)]
        problem = (chain + [((0,) * 59 + (-1,), 0)] + [((1,) * 60, 0)] * 340, (GREAT,) * 60)
        self.assert_shut_out(problem, None, [(0, 1)])
        self.assert_shut_out(problem, GREAT, [(30, 1)])


class Told(unittest.TestCase):
    PROBLEM = ([((1, 1, 0), 1), ((-1, 0, 1), 0), ((0, -1, 1), 0), ((0, 0, -1), 0)], (1, 2, 3))
    HOLDS = [(1, 0)]

    def lists_in(self, paper):
        return [part for line in paper for part in line if isinstance(part, list)]

    def test_each_list_is_a_new_one(self):
        holds = list(self.HOLDS)
        paper = passed_lines(self.PROBLEM, None, holds)
        lists = self.lists_in(paper) + [paper, holds]
        self.assertGreater(len(lists), 3)
        self.assertEqual(len({id(part) for part in lists}), len(lists))

    def test_changing_what_was_told_changes_nothing_told_later(self):
        paper = passed_lines(self.PROBLEM, 9, self.HOLDS)
        asked = copy.deepcopy(paper)
        for part in self.lists_in(paper):
            part.clear()
        paper.clear()
        self.assertEqual(passed_lines(self.PROBLEM, 9, self.HOLDS), asked)
        told = passed(self.PROBLEM[0], self.HOLDS)
        self.assertEqual(told, ([(0, 1, 0), (2, 1, 1)], 3))
        told[0].clear()
        self.assertEqual(passed(self.PROBLEM[0], self.HOLDS), ([(0, 1, 0), (2, 1, 1)], 3))

    def test_changing_what_was_handed_in_behind(self):
        problem = copy.deepcopy(self.PROBLEM)
        holds = list(self.HOLDS)
        paper = passed_lines(problem, 9, holds)
        told = passed(problem[0], holds)
        asked = copy.deepcopy((paper, told))
        problem[0].clear()
        holds.append((2, 0))
        self.assertEqual((paper, told), asked)
        self.assertEqual(passed(problem[0], holds), ([], None))


if __name__ == "__main__":
    unittest.main()
