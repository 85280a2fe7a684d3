"""Changes of problems, and papers carried over."""

import copy
import itertools
import random
import unittest

from nonebetter.changes import carried, changed
from nonebetter.errors import NoStep, PlanError
from nonebetter.judge import judged, rows_told
from nonebetter.knots import search

GREAT = 10 ** 18 - 1
WORDS = ("corners", "shares", "likes", "learnt")
SETS = [list(some) for many in range(5) for some in itertools.combinations(WORDS, many)]

ONE = ((2, 2, 0), 3)
TWO = ((-2, 0, 4), 1)
THREE = ((0, -2, 4), 1)
# Choices 0 and 1 are alike.
PROBLEM = ([ONE, TWO, THREE], (4, 4, 9))
# A line of each word, and some more.
PAPER = [
    ("given", 0), ("given", 1), ("given", 2), ("low", 0), ("high", 2), ("better",), ("like", [1, 0, 2]),
    ("sum", [(0, 1), (1, 1)]), ("share", 0, 2), ("shut", 0, [(0, 0)]), ("either", 9, 9, 0), ("either", 0, 0, 2),
    ("sum", [(3, 2), (4, 1)]), ("sum", [(5, 1), (0, 4)]), ("sum", [(6, 1), (2, 1)]), ("shut", 0, [(1, 0), (0, 1)]),
]


def wide(row, more):
    return (row[0] + (0,) * more, row[1])


def named_by(line):
    if line[0] == "sum":
        return [place for place, _ in line[1]]
    return list({"share": line[1:2], "shut": line[1:2], "either": line[1:3]}.get(line[0], ()))


def row_behind(problem, best, ahead, line):
    """The row of a line behind right ones, or None."""
    rows = rows_told(problem, best, ahead + [line])
    return rows[-1] if len(rows) > len(ahead) else None


def rows_carried(problem, best, paper, other, other_best):
    """For each line of the old list the row that it tells in the other problem, or None where it is not carried.

    By the words of point 19; in both lists a line that is always right, and that none must name, stands in the place of
    each line that is not right or not carried, so that no line has another number than in the old list.
    """
    more = len(other[1]) - len(problem[1])
    old, new, right, told = [], [], [], []
    for line in paper:
        row = row_behind(problem, best, old, line)
        right.append(row is not None and all(right[place] for place in named_by(line)))
        old.append(line if right[-1] else ("like", list(range(len(problem[1])))))
        here = line
        if right[-1] and line[0] == "given":
            here = ("given", other[0].index(wide(row, more)) if wide(row, more) in other[0] else None)
        again = row_behind(other, other_best, new, here)
        is_there = right[-1] and all(told[place] is not None for place in named_by(line)) and again == wide(row, more)
        told.append(again if is_there else None)
        new.append(here if is_there else ("like", list(range(len(other[1])))))
    return told


class CarriedCase(unittest.TestCase):
    def assert_carried(self, problem, best, paper, other, other_best):
        """All that is told of what is carried; told are the new paper and the places."""
        ahead = copy.deepcopy((problem, best, paper, other, other_best))
        told = carried(problem, best, paper, other, other_best)
        self.assertEqual((problem, best, paper, other, other_best), ahead)
        self.assertEqual([type(told), len(told), type(told[0]), type(told[1])], [tuple, 2, list, list])
        new, places = told
        rows = rows_told(other, other_best, new)
        self.assertEqual(len(rows), len(new), (problem, best, paper, other, other_best))
        asked = rows_carried(problem, best, paper, other, other_best)
        self.assertEqual(len(places), len(paper))
        for place in places:
            self.assertIn(type(place), (int, type(None)))
        self.assertEqual([None if place is None else rows[place] for place in places], asked,
                         (problem, best, paper, other, other_best))
        for line in new:
            if line[0] == "given":
                self.assertEqual(other[0].index(other[0][line[1]]), line[1])
        # Nothing is in the new paper that was not in the old one, and nothing twice.
        self.assertEqual({place for place in places if place is not None}, set(range(len(new))))
        self.assertEqual(len(set(rows)), len(rows))
        return told

    def assert_places(self, problem, best, paper, other, other_best, left_out):
        """All lines are carried but those of these numbers."""
        places = self.assert_carried(problem, best, paper, other, other_best)[1]
        self.assertEqual([number for number, place in enumerate(places) if place is None], left_out)


class Changed(unittest.TestCase):
    def assert_changed(self, problem, change, asked):
        ahead = copy.deepcopy((problem, change))
        told = changed(problem, change)
        self.assertEqual((problem, change), ahead)
        self.assertEqual(told, asked)
        self.assertEqual([type(told), len(told), type(told[0]), type(told[1])], [tuple, 2, list, tuple])
        for row in told[0]:
            self.assertEqual([type(row), len(row), type(row[0]), len(row[0])], [tuple, 2, tuple, len(told[1])])

    def test_a_row(self):
        self.assert_changed(PROBLEM, ("row", ((1, 0, -1), 0)), ([ONE, TWO, THREE, ((1, 0, -1), 0)], (4, 4, 9)))
        self.assert_changed(PROBLEM, ("row", ONE), ([ONE, TWO, THREE, ONE], (4, 4, 9)))
        self.assert_changed(([], (1, 2)), ("row", ((GREAT, -GREAT), GREAT)), ([((GREAT, -GREAT), GREAT)], (1, 2)))
        self.assert_changed(([], ()), ("row", ((), 1)), ([((), 1)], ()))
        self.assert_changed(([((), 1)], ()), ("row", ((), -1)), ([((), 1), ((), -1)], ()))

    def test_a_row_less(self):
        self.assert_changed(PROBLEM, ("less", 0), ([TWO, THREE], (4, 4, 9)))
        self.assert_changed(PROBLEM, ("less", 1), ([ONE, THREE], (4, 4, 9)))
        self.assert_changed(PROBLEM, ("less", 2), ([ONE, TWO], (4, 4, 9)))
        self.assert_changed(([ONE, TWO, ONE], (4, 4, 9)), ("less", 2), ([ONE, TWO], (4, 4, 9)))
        self.assert_changed(([ONE, TWO, ONE], (4, 4, 9)), ("less", 0), ([TWO, ONE], (4, 4, 9)))
        self.assert_changed(([((), 1)], ()), ("less", 0), ([], ()))

    def test_a_cost(self):
        self.assert_changed(PROBLEM, ("cost", 0, -7), ([ONE, TWO, THREE], (-7, 4, 9)))
        self.assert_changed(PROBLEM, ("cost", 1, 0), ([ONE, TWO, THREE], (4, 0, 9)))
        self.assert_changed(PROBLEM, ("cost", 2, GREAT), ([ONE, TWO, THREE], (4, 4, GREAT)))
        self.assert_changed(PROBLEM, ("cost", 2, 9), PROBLEM)
        self.assert_changed(([], (5,)), ("cost", 0, 6), ([], (6,)))

    def test_a_choice(self):
        rows = [((2, 2, 0, 0), 3), ((-2, 0, 4, 0), 1), ((0, -2, 4, 0), 1)]
        for cost in (3, 0, -3, GREAT):
            self.assert_changed(PROBLEM, ("choice", cost), (rows, (4, 4, 9, cost)))
        self.assert_changed(([], (1,)), ("choice", 2), ([], (1, 2)))
        self.assert_changed(([], ()), ("choice", 2), ([], (2,)))
        self.assert_changed(([((), 1), ((), -1)], ()), ("choice", 2), ([((0,), 1), ((0,), -1)], (2,)))

    def test_one_behind_another(self):
        problem = ([], ())
        for change in (("choice", 5), ("choice", 6), ("row", ((1, 1), 1)), ("row", ((-1, -1), -1)), ("less", 0),
                       ("cost", 1, 2), ("choice", 0), ("row", ((0, 0, 1), 1))):
            problem = changed(problem, change)
        self.assertEqual(problem, ([((-1, -1, 0), -1), ((0, 0, 1), 1)], (5, 2, 0)))


class NoChange(unittest.TestCase):
    THINGS = (None, True, False, 0, 1, -1, "", "row", "less", (), (1,), [], [1], ((1, 0, -1), 0), [ONE])

    def assert_refused(self, problem, change):
        ahead = copy.deepcopy((problem, change))
        with self.assertRaises(NoStep) as caught:
            changed(problem, change)
        self.assertIsInstance(caught.exception, PlanError)
        self.assertEqual((problem, change), ahead)

    def test_other_things(self):
        for change in self.THINGS + (["row", ONE], ["less", 0], ["cost", 0, 1], ["choice", 1], "choice", "cost"):
            self.assert_refused(PROBLEM, change)

    def test_other_words(self):
        for word in ("", "rows", "Row", "more", "given", "choices", "row ", None, True, 0, ("row",), ["row"]):
            for rest in ((), (0,), (1,), (ONE,), (0, 1), (0, 1, 2)):
                self.assert_refused(PROBLEM, (word,) + rest)

    def test_too_few_and_too_many(self):
        for change in (("row", ONE), ("less", 0), ("cost", 0, 1), ("choice", 1)):
            changed(PROBLEM, change)
            self.assert_refused(PROBLEM, change[:-1])
            self.assert_refused(PROBLEM, change[:1])
            for more in (0, None, ONE):
                self.assert_refused(PROBLEM, change + (more,))

    def test_rows_that_are_none(self):
        for row in (
            None, True, 1, "row", (), ((1, 1, 1),), ((1, 1, 1), 1, 1), [(1, 1, 1), 1], ([1, 1, 1], 1), ((1, 1), 1),
            ((1, 1, 1, 1), 1), ((), 1), ((1, 1, None), 1), ((1, True, 1), 1), ((False, 1, 1), 1), ((1, 1, "1"), 1),
            ((1, 1, (1,)), 1), ((1, 1, 1), None), ((1, 1, 1), True), ((1, 1, 1), "1"), ((1, 1, 1), (1,)),
            (1, (1, 1, 1)), ("111", 1), ((1, 1, 1), [1]),
        ):
            self.assert_refused(PROBLEM, ("row", row))
        self.assert_refused(([], ()), ("row", ((0,), 1)))

    def test_rows_that_are_not_there(self):
        for number in (3, 4, 400, -1, -3, None, True, False, "0", (0,), [0]):
            self.assert_refused(PROBLEM, ("less", number))
        self.assert_refused(([], (1, 2)), ("less", 0))

    def test_choices_that_are_not_there_and_costs_that_are_none(self):
        for choice in (3, 60, -1, None, True, False, "0", (0,), [0]):
            self.assert_refused(PROBLEM, ("cost", choice, 1))
        for cost in (None, True, False, "1", (1,), [1]):
            self.assert_refused(PROBLEM, ("cost", 0, cost))
            self.assert_refused(PROBLEM, ("choice", cost))
        self.assert_refused(([((), 1)], ()), ("cost", 0, 1))


class SameProblem(CarriedCase):
    def test_no_lines(self):
        self.assertEqual(self.assert_carried(PROBLEM, 5, [], PROBLEM, 5), ([], []))
        self.assertEqual(self.assert_carried(([], ()), None, [], ([], (1,)), 3), ([], []))

    def test_the_paper_is_right(self):
        self.assertEqual(len(rows_told(PROBLEM, 40, PAPER)), len(PAPER))

    def test_each_word(self):
        told = self.assert_carried(PROBLEM, 40, PAPER, PROBLEM, 40)
        self.assertNotIn(None, told[1])
        self.assertEqual({line[0] for line in told[0]}, {line[0] for line in PAPER})
        for length in range(len(PAPER)):
            self.assert_carried(PROBLEM, 40, PAPER[:length], PROBLEM, 40)

    def test_each_line_alone(self):
        for line in (("given", 0), ("low", 2), ("high", 1), ("better",), ("like", [1, 0, 2]), ("like", [0, 1, 2])):
            self.assertEqual(self.assert_carried(PROBLEM, 5, [line], PROBLEM, 5), ([line], [0]))

    def test_bests(self):
        self.assert_places(PROBLEM, 40, PAPER, PROBLEM, None, [5, 13])
        self.assert_places(PROBLEM, 40, PAPER, PROBLEM, 41, [5, 13])
        self.assert_places(PROBLEM, 40, PAPER, PROBLEM, 39, [5, 13])
        # In the old list "better" is not right for None, whatever the other best is.
        self.assert_places(PROBLEM, None, PAPER, PROBLEM, 40, [5, 13])
        self.assert_places(PROBLEM, None, PAPER, PROBLEM, None, [5, 13])
        self.assert_places(PROBLEM, 0, PAPER, PROBLEM, 0, [])
        self.assert_places(PROBLEM, -GREAT, PAPER, PROBLEM, -GREAT, [])

    def test_no_choices(self):
        problem = ([((), 1), ((), 0)], ())
        paper = [("given", 0), ("better",), ("like", []), ("sum", [(0, 1), (2, 1)]), ("shut", 3, []), ("given", 1)]
        self.assert_places(problem, 3, paper, problem, 3, [])
        self.assert_places(problem, 3, paper, problem, 4, [1])
        # A like line of no choices tells another row than one of a choice, and its turn is none there.
        self.assert_places(problem, 3, paper, ([((0,), 1), ((0,), 0)], (0,)), 3, [2, 3, 4])


class OtherProblem(CarriedCase):
    def test_a_row_more(self):
        for more in (((1, 1, 1), 1), ONE, ((0, 0, 0), 1)):
            self.assert_places(PROBLEM, 40, PAPER, changed(PROBLEM, ("row", more)), 40, [])
        # Choices 0 and 1 are alike no more.
        parted = changed(PROBLEM, ("row", ((1, 0, 0), 0)))
        self.assert_places(PROBLEM, 40, PAPER, parted, 40, [6, 14])

    def test_a_row_less(self):
        self.assert_places(PROBLEM, 40, PAPER, changed(PROBLEM, ("less", 0)), 40, [0, 7, 8, 9, 10, 11, 13, 15])
        self.assert_places(PROBLEM, 40, PAPER, changed(PROBLEM, ("less", 1)), 40, [1, 6, 7, 14])
        self.assert_places(PROBLEM, 40, PAPER, changed(PROBLEM, ("less", 2)), 40, [2, 6, 14])
        self.assert_places(PROBLEM, 40, PAPER, ([], PROBLEM[1]), 40, [0, 1, 2, 7, 8, 9, 10, 11, 13, 14, 15])

    def test_rows_at_other_numbers(self):
        for order in itertools.permutations(range(3)):
            other = ([PROBLEM[0][number] for number in order], PROBLEM[1])
            new, places = self.assert_carried(PROBLEM, 40, PAPER, other, 40)
            self.assertNotIn(None, places)
            for number in range(3):
                self.assertEqual(new[places[number]], ("given", order.index(number)))

    def test_rows_like_others(self):
        other = ([TWO, ONE, TWO, ONE, THREE, ONE], PROBLEM[1])
        new, places = self.assert_carried(PROBLEM, 40, PAPER, other, 40)
        self.assertEqual([new[places[number]] for number in range(3)], [("given", 1), ("given", 0), ("given", 4)])
        # From several like rows to one: two old lines may have one place.
        paper = [("given", number) for number in (5, 0, 3, 2, 4, 1)] + [("sum", [(0, 1), (2, 1), (5, 2)])]
        new, places = self.assert_carried(other, 40, paper, PROBLEM, 40)
        self.assertEqual([new[place] for place in places[:6]],
                         [("given", number) for number in (0, 1, 0, 1, 2, 0)])
        self.assertEqual(rows_told(PROBLEM, 40, new)[places[6]], ((8, 8, 0), 12))

    def test_a_row_like_it_but_for_the_least(self):
        for row in (((2, 2, 0), 2), ((2, 2, 0), 4), ((2, 1, 0), 3), ((1, 1, 0), 2)):
            other = ([row, TWO, THREE], PROBLEM[1])
            self.assertIsNone(self.assert_carried(PROBLEM, 40, PAPER, other, 40)[1][0])

    def test_other_costs(self):
        # A line that rests on "better" tells another row then, and the turn does not keep the costs.
        self.assert_places(PROBLEM, 40, PAPER, changed(PROBLEM, ("cost", 2, 8)), 40, [5, 13])
        self.assert_places(PROBLEM, 40, PAPER, changed(PROBLEM, ("cost", 0, 5)), 40, [5, 6, 13, 14])
        self.assert_places(PROBLEM, 40, PAPER, changed(PROBLEM, ("cost", 0, 4)), 40, [])

    def test_more_choices(self):
        # The turns of like lines lack a choice.
        self.assert_places(PROBLEM, 40, PAPER, changed(PROBLEM, ("choice", 0)), 40, [6, 14])
        self.assert_places(PROBLEM, 40, PAPER, changed(PROBLEM, ("choice", 1)), 40, [5, 6, 13, 14])
        self.assert_places(PROBLEM, 40, PAPER, changed(PROBLEM, ("choice", -1)), None, [5, 6, 13, 14])
        many = ([wide(row, 57) for row in PROBLEM[0]], PROBLEM[1] + (0,) * 57)
        self.assert_places(PROBLEM, 40, PAPER, many, 40, [6, 14])
        # Rows with another number than 0 behind are others.
        other = ([(row[0] + (1,), row[1]) for row in PROBLEM[0]] + [wide(TWO, 1)], PROBLEM[1] + (0,))
        self.assert_places(PROBLEM, 40, PAPER, other, 40, [0, 2, 6, 7, 8, 9, 10, 11, 13, 14, 15])

    def test_lines_that_name_what_is_not_carried(self):
        other = ([TWO], PROBLEM[1])
        paper = [
            ("given", 0), ("given", 1), ("sum", [(0, 1)]), ("sum", [(1, 1)]), ("sum", [(0, 0), (1, 1)]),
            ("sum", [(1, 1), (0, 0)]), ("share", 0, 1), ("share", 1, 1), ("shut", 0, [(0, 0)]), ("shut", 1, [(2, 0)]),
            ("either", 0, 0, 1), ("either", 1, 1, 1), ("either", 0, 6, 0), ("sum", [(2, 1), (3, 1)]), ("low", 0),
            ("sum", [(3, 1), (14, 1)]), ("sum", [(13, 1)]),
        ]
        self.assertEqual(len(rows_told(PROBLEM, None, paper)), len(paper))
        self.assert_places(PROBLEM, None, paper, other, None, [0, 2, 4, 5, 6, 8, 10, 12, 13, 16])

    def test_the_row_by_another_line_does_not_count(self):
        # Line 3 tells the row of line 0, which is not carried, and so is carried itself, but not what names line 0.
        problem = ([((2, 0), 2), ((1, 0), 1)], (0, 0))
        paper = [("given", 0), ("given", 1), ("share", 0, 1), ("sum", [(1, 2)]), ("sum", [(0, 1)]), ("sum", [(3, 1)])]
        self.assert_places(problem, None, paper, ([((1, 0), 1)], (0, 0)), None, [0, 2, 4])

    def test_either_and_shut_where_rows_are_the_same(self):
        other = ([((9, 9, 9, 9), 9), wide(THREE, 1), wide(ONE, 1)], (4, 4, 9, 7))
        self.assert_places(PROBLEM, None, PAPER, other, 40, [1, 5, 6, 7, 13, 14])


class WrongLines(CarriedCase):
    WRONG = (
        None, True, 0, 5, "given", "", [], ["given", 0], (), ("given",), ("given", 3), ("given", True), ("given", 0, 0),
        ("given", -1), ("low", 3), ("high", None), ("better", 1), ("sum", []), ("sum", [(2, 1)]), ("sum", [(99, 1)]),
        ("sum", [(0, -1)]), ("sum", ((0, 1),)), ("sum", [[0, 1]]), ("sum", [(0, True)]), ("share", 0, 3),
        ("share", 0, 0), ("share", 7, 1), ("shut", 0, []), ("shut", 0, [(0, 0), (0, 0)]), ("shut", 0, ((0, 0),)),
        ("shut", None, []),
        ("either", 0, 1, 0), ("either", 0, 0, 3), ("either", 0, "1", 0), ("like", [0, 2, 1]), ("like", [0, 1]),
        ("like", (1, 0, 2)), ("like", [1, 0, True]), ("GIVEN", 0), ([], 0), (("given", 0),), ("high", [0]),
    )

    def test_each_is_left_out_and_others_are_not(self):
        for line in self.WRONG:
            paper = [("given", 0), ("given", 1), line, ("sum", [(0, 1), (1, 1)]), ("low", 0)]
            self.assertEqual(carried(PROBLEM, None, paper, PROBLEM, None),
                             ([("given", 0), ("given", 1), ("sum", [(0, 1), (1, 1)]), ("low", 0)], [0, 1, None, 2, 3]))

    def test_lines_that_name_them(self):
        for line in self.WRONG:
            paper = [
                ("given", 0), ("given", 1), line, ("sum", [(2, 1)]), ("sum", [(0, 1), (2, 0)]), ("share", 2, 1),
                ("shut", 2, [(0, 0)]), ("either", 2, 0, 0), ("either", 0, 2, 0), ("sum", [(4, 1)]), ("given", 1),
                ("either", 2, 2, 0), ("sum", [(10, 1), (0, 1)]),
            ]
            ahead = copy.deepcopy(paper)
            new, places = carried(PROBLEM, None, paper, PROBLEM, None)
            self.assertEqual(paper, ahead)
            self.assertEqual(places[2:10] + [places[11]], [None] * 9)
            self.assertEqual([new[places[number]] for number in (0, 1, 10)], [("given", 0), ("given", 1), ("given", 1)])
            self.assertEqual(rows_told(PROBLEM, None, new)[places[12]], ((0, 2, 4), 4))

    def test_a_line_that_names_itself_or_lines_behind(self):
        paper = [("sum", [(0, 1)]), ("sum", [(2, 1)]), ("given", 0), ("share", 3, 1), ("either", 2, 5, 0), ("given", 1)]
        self.assert_places(PROBLEM, None, paper, PROBLEM, None, [0, 1, 3, 4])

    def test_lines_that_are_right_only_in_the_other_problem(self):
        paper = [("given", 3), ("low", 3), ("like", [0, 1, 2, 3]), ("sum", [(0, 1)]), ("better",), ("given", 0)]
        other = ([wide(row, 1) for row in PROBLEM[0]] + [((0, 0, 0, 0), 0)], (4, 4, 9, 0))
        self.assert_places(PROBLEM, None, paper, other, 5, [0, 1, 2, 3, 4])

    def test_only_wrong_ones(self):
        self.assertEqual(carried(PROBLEM, None, [None, "", ()], PROBLEM, None), ([], [None, None, None]))


class AnyPapers(CarriedCase):
    def any_problem(self, chance):
        count = chance.randint(1, 4)
        size = chance.choice((1, 1, 2))
        rows = [
            (tuple(chance.randint(-size, size) for _ in range(count)), chance.randint(-size, size + 1))
            for _ in range(chance.randint(1, 3))
        ]
        if count > 1 and chance.randint(0, 1):
            rows += [((row[0][1], row[0][0]) + row[0][2:], row[1]) for row in rows]
        return (rows, (chance.randint(-1, 1),) * count)

    def any_line(self, chance, problem, many):
        count = len(problem[1])
        line = chance.randrange(many + 1)
        held = [(here, chance.randint(0, 1)) for here in chance.sample(range(count), chance.randint(0, count))]
        return chance.choice((
            ("given", chance.randrange(len(problem[0]) + 1)), ("low", chance.randrange(count + 1)),
            ("high", chance.randrange(count + 1)), ("better",), ("share", line, chance.randint(1, 2)),
            ("sum", [(chance.randrange(many + 1), chance.randint(0, 2)) for _ in range(chance.randint(1, 3))]),
            ("shut", line, held), ("shut", line, held), ("like", chance.sample(range(count), count)),
            ("either", line, chance.randrange(many + 1), chance.randrange(count)),
        ))

    def other_problem(self, chance, problem):
        count = len(problem[1])
        for _ in range(chance.randint(0, 3)):
            deed = chance.randint(0, 4)
            if deed == 0:
                row = chance.choice(problem[0]) if problem[0] else ((0,) * len(problem[1]), 0)
                problem = changed(problem, ("row", row))
            elif deed == 1 and problem[0]:
                problem = changed(problem, ("less", chance.randrange(len(problem[0]))))
            elif deed == 2:
                problem = changed(problem, ("cost", chance.randrange(count), chance.randint(-1, 1)))
            elif deed == 3:
                problem = changed(problem, ("choice", chance.randint(-1, 1)))
            else:
                problem = (chance.sample(problem[0], len(problem[0])), problem[1])
        return problem

    def test_any(self):
        chance = random.Random(130)
        seen = {}
        for _ in range(600):
            problem = self.any_problem(chance)
            best = chance.choice((None, chance.randint(-2, 2)))
            paper = []
            for _ in range(25):
                line = self.any_line(chance, problem, len(paper))
                # Most lines that are not right are left out, or hardly any would be carried.
                if row_behind(problem, best, paper, line) is not None or chance.randint(0, 9) == 0 and paper:
                    paper.append(line)
            other = self.other_problem(chance, problem)
            other_best = chance.choice((None, best, best, 1))
            places = self.assert_carried(problem, best, paper, other, other_best)[1]
            for line, place in zip(paper, places):
                key = (line[0], place is None)
                seen[key] = seen.get(key, 0) + 1
        self.assertEqual(len(seen), 18)
        self.assertGreater(min(seen.values()), 30, seen)

    def test_papers_that_search_tells(self):
        chance = random.Random(131)
        for _ in range(60):
            problem = self.any_problem(chance)
            for deeds in SETS:
                point, cost, paper = search(problem, deeds)
                other = self.other_problem(chance, problem)
                self.assert_carried(problem, cost, paper, other, chance.choice((None, cost)))
                # In the same problem, for the same best, all of it is there.
                new, places = self.assert_carried(problem, cost, paper, problem, cost)
                self.assertNotIn(None, places)
                self.assertIsNone(judged(problem, cost, new[:places[-1] + 1]))


class Sizes(CarriedCase):
    def test_three_thousand_lines_of_sixty_choices(self):
        chance = random.Random(132)
        rows = [
            (tuple(chance.randint(-GREAT, GREAT) for _ in range(59)), chance.randint(-GREAT, GREAT)) for _ in range(400)
        ]
        problem = (rows, (GREAT,) * 59)
        paper = [("given", number % 400) for number in range(1500)]
        paper += [("sum", [(number, GREAT), (number + 1, 3)]) for number in range(1498)]
        paper += [("like", list(range(59))), ("better",)]
        other = ([wide(row, 1) for row in reversed(rows[1:])], problem[1] + (0,))
        new, places = carried(problem, 7, paper, other, 7)
        self.assertEqual(len(places), 3000)
        told = rows_told(other, 7, new)
        self.assertEqual(len(told), len(new))
        old = rows_told(problem, 7, paper)
        for number, place in enumerate(places):
            gone = number in (0, 400, 800, 1200, 2998)
            gone = gone or 1500 <= number < 2998 and (number - 1500) % 400 in (0, 399)
            self.assertEqual(place is None, gone, number)
            if place is not None:
                self.assertEqual(told[place], wide(old[number], 1))

    def test_a_long_chain(self):
        paper = [("given", 0)] + [("sum", [(number, 2)]) for number in range(500)]
        other = ([((0, 1), 0), ((1, 0), 1)], (1, 1))
        new, places = carried(([((1,), 1)], (1,)), None, paper, other, None)
        self.assertEqual(places, list(range(501)))
        self.assertEqual(rows_told(other, None, new)[-1], ((2 ** 500, 0), 2 ** 500))


class Told(unittest.TestCase):
    """Each call is made with things of its own."""

    CALLS = {
        "row": lambda problem, paper, other: changed(problem, ("row", ONE)),
        "less": lambda problem, paper, other: changed(problem, ("less", 1)),
        "cost": lambda problem, paper, other: changed(problem, ("cost", 1, 3)),
        "choice": lambda problem, paper, other: changed(problem, ("choice", 3)),
        "carried": lambda problem, paper, other: carried(problem, 40, paper, other, 40),
        "nothing": lambda problem, paper, other: carried(problem, 40, [], other, 40),
    }

    def handed(self):
        return copy.deepcopy((PROBLEM, PAPER, (PROBLEM[0] + [ONE], PROBLEM[1])))

    def lists_in(self, thing):
        inner = [part for more in thing for part in self.lists_in(more)] if isinstance(thing, (tuple, list)) else []
        return inner + ([thing] if isinstance(thing, list) else [])

    def test_each_list_is_a_new_one(self):
        for word, call in self.CALLS.items():
            handed = self.handed()
            lists = self.lists_in(handed) + self.lists_in(call(*handed))
            self.assertEqual(len({id(part) for part in lists}), len(lists), word)

    def test_changing_what_was_told_changes_nothing(self):
        for word, call in self.CALLS.items():
            handed = self.handed()
            told = call(*handed)
            asked = copy.deepcopy(told)
            for part in self.lists_in(told):
                part.clear()
            self.assertEqual(handed, self.handed(), word)
            self.assertEqual(call(*handed), asked, word)

    def test_changing_what_was_handed_in_behind(self):
        for word, call in self.CALLS.items():
            handed = self.handed()
            told = call(*handed)
            asked = copy.deepcopy(told)
            for part in self.lists_in(handed):
                part.clear()
            self.assertEqual(told, asked, word)


if __name__ == "__main__":
    unittest.main()
