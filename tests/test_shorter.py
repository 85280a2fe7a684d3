"""What the last line of a paper rests on, and shorter papers."""

import copy
import itertools
import random
import unittest

from nonebetter.corners import bound_lines, corner
from nonebetter.judge import judged, rows_told
from nonebetter.knots import search
from nonebetter.passing import passed_lines
from nonebetter.shorter import rests_on, shorter

GREAT = 10 ** 18 - 1
WORDS = ("corners", "shares", "likes", "learnt")
SETS = [list(some) for many in range(5) for some in itertools.combinations(WORDS, many)]

# Choices 0 and 1 are alike; rows 0 and 3 are the same.
PROBLEM = ([((2, 2, 0), 3), ((-2, 0, 4), 1), ((0, -2, 4), 1), ((2, 2, 0), 3)], (4, 4, 9))


def named_by(line):
    if line[0] == "sum":
        return [place for place, _ in line[1]]
    return list({"share": line[1:2], "shut": line[1:2], "either": line[1:3]}.get(line[0], ()))


def reached(paper, number):
    """The numbers of the lines on which a line rests, by the words of point 17."""
    found = {number}
    for other in named_by(paper[number]):
        found |= reached(paper, other)
    return found


def any_problem(chance):
    count = chance.randint(1, 4)
    size = chance.choice((1, 2, 4))
    rows = [
        (tuple(chance.randint(-size, size) for _ in range(count)), chance.randint(-size, size + 1))
        for _ in range(chance.randint(1, 4))
    ]
    costs = [chance.randint(-2, 2)] * count
    if count > 1 and chance.randint(0, 1):
        # Two choices are made alike.
        rows += [((row[0][1], row[0][0]) + row[0][2:], row[1]) for row in rows]
    return (rows, tuple(costs))


def any_line(chance, problem, many):
    """A line behind so many others, perhaps no right one."""
    count = len(problem[1])
    line = chance.randrange(many + 1)
    choice = chance.randrange(count)
    held = [(here, chance.randint(0, 1)) for here in chance.sample(range(count), chance.randint(0, count))]
    return chance.choice((
        ("given", chance.randrange(len(problem[0]))), ("low", choice), ("high", choice), ("better",),
        ("sum", [(chance.randrange(many + 1), chance.randint(0, 2)) for _ in range(chance.randint(1, 3))]),
        ("share", line, chance.randint(1, 2)), ("shut", line, held), ("shut", line, held),
        ("either", line, chance.randrange(many + 1), choice), ("like", chance.sample(range(count), count)),
    ))


def any_paper(chance, problem, best, tries):
    """A paper of right lines."""
    paper = []
    for _ in range(tries):
        line = any_line(chance, problem, len(paper))
        if len(rows_told(problem, best, paper + [line])) > len(paper):
            paper.append(line)
    return paper


class RestsOn(unittest.TestCase):
    def assert_rests(self, paper, asked):
        ahead = copy.deepcopy(paper)
        told = rests_on(paper)
        self.assertEqual(told, asked, paper)
        self.assertIs(type(told), list)
        self.assertEqual(paper, ahead)

    def test_no_lines(self):
        self.assert_rests([], [])

    def test_one_line(self):
        for line in (("given", 3), ("low", 0), ("high", 0), ("better",), ("like", [1, 0, 2])):
            self.assert_rests([line], [0])

    def test_a_last_line_that_names_none(self):
        for line in (("given", 1), ("low", 1), ("high", 2), ("better",), ("like", [0, 1, 2])):
            self.assert_rests([("given", 0), ("sum", [(0, 1)]), line], [2])

    def test_each_word_that_names_lines(self):
        ahead = [("given", 0), ("given", 1), ("given", 2), ("given", 3)]
        self.assert_rests(ahead + [("sum", [(2, 1)])], [2, 4])
        self.assert_rests(ahead + [("sum", [(3, 1), (0, 5)])], [0, 3, 4])
        self.assert_rests(ahead + [("sum", [(3, 1), (3, 2), (1, 1)])], [1, 3, 4])
        self.assert_rests(ahead + [("share", 2, 1)], [2, 4])
        self.assert_rests(ahead + [("shut", 1, [(0, 0), (2, 1)])], [1, 4])
        self.assert_rests(ahead + [("shut", 3, [])], [3, 4])
        self.assert_rests(ahead + [("either", 3, 1, 0)], [1, 3, 4])
        self.assert_rests(ahead + [("either", 0, 2, 1)], [0, 2, 4])
        self.assert_rests(ahead + [("either", 2, 2, 3)], [2, 4])

    def test_a_part_nought_times_is_named_too(self):
        self.assert_rests([("given", 0), ("given", 1), ("sum", [(0, 0), (1, 1)])], [0, 1, 2])
        self.assert_rests([("given", 0), ("given", 1), ("sum", [(0, 0)])], [0, 2])

    def test_numbers_that_are_no_lines(self):
        # Rows, choices, worths, times and what is divided by are not taken for lines.
        self.assert_rests([("low", 0), ("low", 1), ("given", 1), ("given", 0)], [3])
        self.assert_rests([("low", 0), ("low", 1), ("low", 2), ("share", 0, 1)], [0, 3])
        self.assert_rests([("low", 0), ("low", 1), ("low", 2), ("sum", [(2, 1)])], [2, 3])
        self.assert_rests([("low", 0), ("low", 1), ("low", 2), ("either", 0, 0, 1)], [0, 3])
        self.assert_rests([("low", 0), ("low", 1), ("low", 2), ("shut", 0, [(1, 1), (2, 0)])], [0, 3])
        self.assert_rests([("low", 0), ("low", 1), ("like", [0, 1])], [2])

    def test_through_other_lines(self):
        paper = [
            ("given", 0), ("given", 1), ("given", 2), ("sum", [(1, 1)]), ("share", 3, 1), ("low", 0),
            ("sum", [(4, 1), (1, 2)]), ("either", 6, 4, 0),
        ]
        self.assert_rests(paper, [1, 3, 4, 6, 7])
        self.assert_rests(paper[:7], [1, 3, 4, 6])
        self.assert_rests(paper + [("sum", [(5, 1)])], [5, 8])

    def test_lines_named_by_several(self):
        paper = [("given", 0)] + [("sum", [(0, 1)])] * 3 + [("sum", [(1, 1), (2, 1), (3, 1), (0, 1)])]
        self.assert_rests(paper, [0, 1, 2, 3, 4])
        self.assert_rests(paper + [("either", 4, 4, 0), ("sum", [(5, 1), (2, 1)])], [0, 1, 2, 3, 4, 5, 6])

    def test_only_the_last_line_counts(self):
        self.assert_rests([("given", 0), ("sum", [(0, 1)]), ("given", 0), ("sum", [(2, 1)])], [2, 3])

    def test_three_thousand_lines(self):
        chain = [("given", 0)] + [("sum", [(number, 1)]) for number in range(2999)]
        self.assert_rests(chain, list(range(3000)))
        self.assert_rests(chain[:1500] + [("low", 0)] * 1499 + [("sum", [(700, 1)])], list(range(701)) + [2999])
        # Each line is named by all behind it.
        dense = [("low", 0)] + [("sum", [(line, 1) for line in range(number)]) for number in range(1, 300)]
        self.assert_rests(dense, list(range(300)))

    def test_any_papers(self):
        chance = random.Random(110)
        for _ in range(300):
            problem = any_problem(chance)
            paper = any_paper(chance, problem, 2, 20)
            for length in range(1, len(paper) + 1):
                self.assert_rests(paper[:length], sorted(reached(paper[:length], length - 1)))


class ShorterCase(unittest.TestCase):
    def assert_shorter(self, problem, best, paper):
        ahead = copy.deepcopy((problem, best, paper))
        told = shorter(problem, best, paper)
        self.assertEqual((problem, best, paper), ahead)
        self.assertIs(type(told), list)
        rows = rows_told(problem, best, told)
        self.assertEqual(len(rows), len(told), (problem, best, paper, told))
        self.assertEqual(rows[-1], rows_told(problem, best, paper)[-1])
        self.assertEqual(len(set(rows)), len(rows), (problem, best, paper, told))
        self.assertLessEqual(len(told), len(reached(paper, len(paper) - 1)), (problem, best, paper, told))
        self.assertEqual(reached(told, len(told) - 1), set(range(len(told))), (problem, best, paper, told))
        self.assertEqual(rests_on(told), list(range(len(told))))
        return told


class Shorter(ShorterCase):
    def test_no_lines(self):
        self.assertEqual(shorter(PROBLEM, None, []), [])
        self.assertEqual(shorter(PROBLEM, 5, []), [])
        self.assertEqual(shorter(([], ()), None, []), [])

    def test_one_line(self):
        for line in (("given", 1), ("low", 0), ("high", 2), ("better",), ("like", [1, 0, 2])):
            self.assertEqual(self.assert_shorter(PROBLEM, 7, [line]), [line])

    def test_lines_that_nothing_rests_on(self):
        paper = [("given", 1), ("given", 0), ("low", 2), ("share", 1, 2), ("sum", [(0, 1), (2, 1)])]
        paper += [("shut", 3, [(0, 0)])]
        told = self.assert_shorter(PROBLEM, None, paper)
        self.assertEqual(told, [("given", 0), ("share", 0, 2), ("shut", 1, [(0, 0)])])

    def test_a_given_row_told_twice(self):
        # Rows 0 and 3 are the same.
        for one, other in ((0, 0), (0, 3), (3, 0)):
            paper = [("given", one), ("given", other), ("sum", [(0, 1), (1, 2)])]
            self.assertEqual(len(self.assert_shorter(PROBLEM, None, paper)), 2)

    def test_a_row_told_in_two_ways(self):
        paper = [("given", 0), ("sum", [(0, 1)]), ("share", 1, 1), ("sum", [(2, 3), (1, 1), (0, 1)])]
        self.assertEqual(len(self.assert_shorter(PROBLEM, None, paper)), 2)

    def test_three_and_more_of_one_row(self):
        paper = [("low", 1)] + [("sum", [(number, 1)]) for number in range(6)] + [("sum", [(6, 2), (3, 1)])]
        self.assertEqual(len(self.assert_shorter(PROBLEM, None, paper)), 2)

    def test_the_last_row_told_ahead(self):
        paper = [("given", 0), ("given", 1), ("sum", [(0, 1), (1, 1)]), ("sum", [(2, 1)]), ("share", 3, 1)]
        self.assertEqual(len(self.assert_shorter(PROBLEM, None, paper)), 3)
        self.assertEqual(self.assert_shorter(PROBLEM, None, [("given", 0), ("given", 3)])[0][0], "given")
        self.assertEqual(len(shorter(PROBLEM, None, [("given", 0), ("low", 0), ("given", 3)])), 1)
        # The last line rests on the like one.
        self.assertEqual(len(self.assert_shorter(PROBLEM, None, [("low", 0), ("sum", [(0, 1)])])), 1)

    def test_a_line_ahead_of_those_that_it_could_spare(self):
        row = ((0, 2, 4), 4)
        problem = (PROBLEM[0] + [row], PROBLEM[1])
        # The row of line 3 is given in line 0, on which something rests ...
        paper = [("given", 4), ("given", 0), ("given", 1), ("sum", [(1, 1), (2, 1)]), ("sum", [(3, 1), (0, 1)])]
        self.assertEqual(len(self.assert_shorter(problem, None, paper)), 2)
        # ... or nothing.
        paper[4] = ("sum", [(3, 2)])
        self.assertLessEqual(len(self.assert_shorter(problem, None, paper)), 4)

    def test_a_line_ahead_that_needs_more_than_it_spares(self):
        row = ((0, 2, 4), 4)
        problem = (PROBLEM[0] + [row], PROBLEM[1])
        # Line 4 tells the row of line 2 again, by itself.
        paper = [("given", 0), ("given", 1), ("sum", [(0, 1), (1, 1)]), ("low", 0), ("given", 4)]
        paper += [("sum", [(4, 1), (3, 1)])]
        self.assertEqual(len(self.assert_shorter(problem, None, paper)), 3)
        paper = [("given", 0), ("given", 1), ("sum", [(0, 1), (1, 1)]), ("given", 4)]
        self.assertEqual(len(self.assert_shorter(problem, None, paper)), 1)

    def test_both_at_once(self):
        # What spares lines in one place needs more in another one.
        row = ((0, 2, 4), 4)
        problem = (PROBLEM[0] + [row], PROBLEM[1])
        paper = [
            ("low", 0), ("low", 1), ("sum", [(0, 2), (1, 2)]), ("given", 0), ("given", 1), ("sum", [(3, 1), (4, 1)]),
            ("given", 4), ("high", 0), ("sum", [(6, 1), (0, 2), (1, 2)]), ("sum", [(6, 1), (2, 1)]),
            ("sum", [(9, 1), (7, 1)]),
        ]
        self.assert_shorter(problem, None, paper)
        self.assert_shorter(problem, None, paper[:9])

    def test_each_word(self):
        paper = [
            ("given", 0), ("given", 3), ("low", 0), ("low", 0), ("high", 1), ("high", 1), ("better",), ("better",),
            ("like", [1, 0, 2]), ("like", [1, 0, 2]), ("share", 1, 2), ("share", 0, 2), ("shut", 0, [(0, 0)]),
            ("shut", 1, [(0, 0)]), ("either", 12, 13, 0), ("either", 13, 12, 0),
        ]
        last = ("sum", [(number, 1) for number in range(16)])
        told = self.assert_shorter(PROBLEM, 30, paper + [last])
        self.assertEqual(len(told), 9)
        self.assertEqual({line[0] for line in told}, {line[0] for line in paper + [last]})

    def test_best_a_number_and_none(self):
        paper = [("given", 0), ("better",), ("sum", [(0, 2), (1, 1)]), ("better",), ("sum", [(0, 2), (3, 1)])]
        paper += [("low", 0), ("sum", [(4, 1), (2, 1)])]
        self.assertEqual(len(self.assert_shorter(PROBLEM, 8, paper)), 4)
        self.assertEqual(len(self.assert_shorter(PROBLEM, -GREAT, paper)), 4)

    def test_no_choices(self):
        problem = ([((), 1), ((), -1), ((), 1)], ())
        paper = [("given", 1), ("given", 0), ("given", 2), ("sum", [(1, 1), (2, 1)])]
        self.assertEqual(len(self.assert_shorter(problem, None, paper)), 2)
        paper = [("better",), ("given", 0), ("like", []), ("shut", 1, [])]
        self.assertEqual(len(self.assert_shorter(problem, 1, paper)), 1)

    def test_any_papers(self):
        chance = random.Random(111)
        less = 0
        for _ in range(500):
            problem = any_problem(chance)
            best = chance.choice((None, chance.randint(-3, 3)))
            paper = any_paper(chance, problem, best, 40)
            for length in range(1, len(paper) + 1):
                told = self.assert_shorter(problem, best, paper[:length])
                less += len(told) < len(reached(paper, length - 1))
        self.assertGreater(less, 500)


class PapersOfTheProgram(ShorterCase):
    def assert_let_by(self, problem, best, paper):
        self.assertIsNone(judged(problem, best, self.assert_shorter(problem, best, paper)))

    def test_papers_that_search_tells(self):
        chance = random.Random(112)
        seen = {}
        for _ in range(60):
            problem = any_problem(chance)
            for deeds in SETS:
                point, cost, paper = search(problem, deeds)
                self.assert_let_by(problem, cost, paper)
                seen[cost is None] = True
        self.assertEqual(len(seen), 2)

    def test_longer_ones(self):
        # Of nine choices in a ring no two neighbours are taken; six things are put at five places.
        ring = ([(tuple(-(here in (step, (step + 1) % 9)) for here in range(9)), -1) for step in range(9)], (-1,) * 9)
        rows = [(tuple(int(here // 5 == thing) for here in range(30)), 1) for thing in range(6)]
        rows += [(tuple(-(here % 5 == place) for here in range(30)), -1) for place in range(5)]
        for problem in (ring, (rows, (1,) * 30)):
            for deeds in ([], ["learnt"], ["corners"], list(WORDS)):
                point, cost, paper = search(problem, deeds)
                self.assertLessEqual(len(rests_on(paper)), len(paper))
                told = shorter(problem, cost, paper)
                self.assertIsNone(judged(problem, cost, told))
                self.assertLessEqual(len(told), len(rests_on(paper)))
                self.assertEqual(rests_on(told), list(range(len(told))))
                self.assertEqual(len(set(rows_told(problem, cost, told))), len(told))

    def test_other_papers(self):
        chance = random.Random(113)
        for _ in range(200):
            problem = any_problem(chance)
            best = chance.choice((None, chance.randint(-3, 3)))
            for paper in (
                passed_lines(problem, best, [(0, 1)]),
                bound_lines(problem, best, corner(problem[0], problem[1])[0], []),
            ):
                if paper is not None:
                    self.assert_shorter(problem, best, paper)

    def test_three_thousand_lines_of_sixty_choices(self):
        chance = random.Random(114)
        rows = [
            (tuple(chance.randint(-GREAT, GREAT) for _ in range(60)), chance.randint(-GREAT, GREAT)) for _ in range(400)
        ]
        problem = (rows, (GREAT,) * 60)
        paper = [("given", number % 400) for number in range(1500)]
        paper += [("sum", [(number, GREAT), (number + 1, 3)]) for number in range(1499)]
        paper += [("sum", [(number, 1) for number in range(2999)])]
        told = shorter(problem, None, paper)
        self.assertEqual(len(told), 400 + 400 + 1)
        self.assertEqual(rows_told(problem, None, told)[-1], rows_told(problem, None, paper)[-1])


class Told(unittest.TestCase):
    PAPER = [
        ("given", 0), ("low", 1), ("given", 3), ("sum", [(0, 1), (1, 2)]), ("shut", 0, [(0, 0)]), ("like", [1, 0, 2]),
        ("sum", [(3, 1), (4, 1), (5, 1), (2, 1)]),
    ]

    def lists_in(self, paper):
        return [paper] + [part for line in paper for part in line if isinstance(part, list)]

    def test_each_list_is_a_new_one(self):
        handed = copy.deepcopy(self.PAPER)
        lists = self.lists_in(handed) + self.lists_in(shorter(PROBLEM, None, handed)) + [rests_on(handed)]
        self.assertEqual(len({id(part) for part in lists}), len(lists))
        for line in handed[:1] + [("shut", 0, [(0, 0)]), ("like", [1, 0, 2]), ("sum", [(0, 3)])]:
            paper = [("given", 0), line]
            told = shorter(PROBLEM, None, paper)
            lists = self.lists_in(paper) + self.lists_in(told)
            self.assertEqual(len({id(part) for part in lists}), len(lists), line)

    def test_changing_what_was_told_changes_nothing(self):
        handed = copy.deepcopy(self.PAPER)
        told = shorter(PROBLEM, None, handed)
        asked = copy.deepcopy(told)
        for part in reversed(self.lists_in(told)):
            part.clear()
        self.assertEqual(handed, self.PAPER)
        self.assertEqual(shorter(PROBLEM, None, handed), asked)
        rests_on(handed).clear()
        self.assertEqual(rests_on(handed), [0, 1, 2, 3, 4, 5, 6])
        empty = shorter(PROBLEM, None, [])
        empty.append("mine")
        rests_on([]).append("mine")
        self.assertEqual((shorter(PROBLEM, None, []), rests_on([])), ([], []))

    def test_changing_what_was_handed_in_behind(self):
        problem = copy.deepcopy(PROBLEM)
        handed = copy.deepcopy(self.PAPER)
        told = shorter(problem, None, handed)
        numbers = rests_on(handed)
        asked = copy.deepcopy((told, numbers))
        problem[0].clear()
        for part in reversed(self.lists_in(handed)):
            part.clear()
        self.assertEqual((told, numbers), asked)


if __name__ == "__main__":
    unittest.main()
