"""Papers, the rows that their lines tell, and the judge."""

import copy
import itertools
import random
import unittest

from nonebetter.corners import bound_lines, corner
from nonebetter.judge import judged, rows_told
from nonebetter.passing import passed_lines
from nonebetter.rows import cost_of, kept, keeps, turn_keeps

GREAT = 10 ** 18 - 1

PROBLEM = ([((3, -2, 0), -4), ((6, -9, 12), 7), ((0, 0, 0), 2)], (5, -7, 0))
ONE = ([((4,), 2), ((-6,), -3)], (-8,))
NONE = ([((), 1), ((), -1)], ())
# Choices 0 and 1 are alike; 2 stands alone.
TWINS = ([((1, 0, 2), 1), ((0, 1, 2), 1)], (4, 4, 9))


def points(count):
    return list(itertools.product((0, 1), repeat=count))


def numbers_in(thing):
    """All that is in a row or a list of rows and is neither tuple nor list."""
    if isinstance(thing, (tuple, list)):
        return [number for part in thing for number in numbers_in(part)]
    return [thing]


class PaperCase(unittest.TestCase):
    def assert_told(self, problem, best, paper, rows):
        ahead = copy.deepcopy((problem, best, paper))
        told = rows_told(problem, best, paper)
        self.assertEqual((problem, best, paper), ahead)
        self.assertEqual(told, rows, paper)
        self.assertIs(type(told), list)
        for row in told:
            self.assertEqual((type(row), len(row), type(row[0])), (tuple, 2, tuple))
            self.assertTrue(all(type(number) is int for number in numbers_in(row)))

    def assert_last(self, problem, best, paper, row):
        told = rows_told(problem, best, paper)
        self.assert_told(problem, best, paper, told[:-1] + [row])
        self.assertEqual(len(told), len(paper))

    def assert_wrong(self, problem, best, paper):
        """All lines but the last one are right."""
        ahead = copy.deepcopy(paper)
        self.assertEqual(len(rows_told(problem, best, paper)), len(paper) - 1, paper)
        self.assertEqual(judged(problem, best, paper), len(paper) - 1, paper)
        self.assertEqual(paper, ahead)


class Given(PaperCase):
    def test_rows_of_the_problem(self):
        for number in range(3):
            self.assert_told(PROBLEM, 3, [("given", number)], [PROBLEM[0][number]])
        self.assert_told(ONE, None, [("given", 1), ("given", 0)], [((-6,), -3), ((4,), 2)])
        self.assert_told(NONE, None, [("given", 1)], [((), -1)])

    def test_rows_that_are_not_there(self):
        for number in (3, -1, 400, -3):
            self.assert_wrong(PROBLEM, 3, [("given", number)])
        self.assert_wrong(([], (1,)), 3, [("given", 0)])


class LowAndHigh(PaperCase):
    def test_each_choice(self):
        self.assert_told(PROBLEM, None, [("low", 0), ("low", 2)], [((1, 0, 0), 0), ((0, 0, 1), 0)])
        self.assert_told(PROBLEM, None, [("high", 0), ("high", 2)], [((-1, 0, 0), -1), ((0, 0, -1), -1)])
        self.assert_told(ONE, 1, [("low", 0), ("high", 0)], [((1,), 0), ((-1,), -1)])

    def test_choices_that_are_not_there(self):
        for word in ("low", "high"):
            for choice in (3, -1, 60):
                self.assert_wrong(PROBLEM, 1, [(word, choice)])
            self.assert_wrong(NONE, 1, [(word, 0)])


class Better(PaperCase):
    def test_less_than_best(self):
        self.assert_told(PROBLEM, 10, [("better",)], [((-5, 7, 0), -9)])
        self.assert_told(PROBLEM, 0, [("better",)], [((-5, 7, 0), 1)])
        self.assert_told(PROBLEM, -4, [("better",)], [((-5, 7, 0), 5)])
        self.assert_told(ONE, 1, [("better",)], [((8,), 0)])
        self.assert_told(NONE, 0, [("better",)], [((), 1)])
        self.assert_told(([], (GREAT,)), -GREAT, [("better",)], [((-GREAT,), 1 + GREAT)])

    def test_without_best(self):
        for problem in (PROBLEM, ONE, NONE):
            self.assert_wrong(problem, None, [("better",)])


class Sum(PaperCase):
    GIVEN = [("given", 0), ("given", 1)]

    def assert_sum(self, parts, row):
        self.assert_last(PROBLEM, None, self.GIVEN + [("sum", parts)], row)

    def test_sums(self):
        self.assert_sum([(0, 1)], ((3, -2, 0), -4))
        self.assert_sum([(1, 3)], ((18, -27, 36), 21))
        self.assert_sum([(0, 2), (1, 1)], ((12, -13, 12), -1))
        self.assert_sum([(1, 1), (0, 2)], ((12, -13, 12), -1))

    def test_times_nought(self):
        self.assert_sum([(0, 0)], ((0, 0, 0), 0))
        self.assert_sum([(0, 0), (1, 1)], ((6, -9, 12), 7))

    def test_a_line_twice(self):
        self.assert_sum([(0, 1), (0, 2)], ((9, -6, 0), -12))
        self.assert_sum([(0, 1), (1, 1), (0, 1)], ((12, -13, 12), -1))

    def test_of_a_sum(self):
        paper = self.GIVEN + [("sum", [(0, 1), (1, 1)]), ("sum", [(2, GREAT)])]
        self.assert_last(PROBLEM, None, paper, ((9 * GREAT, -11 * GREAT, 12 * GREAT), 3 * GREAT))

    def test_of_one_choice_and_of_none(self):
        self.assert_last(ONE, None, [("given", 0), ("given", 1), ("sum", [(0, 3), (1, 2)])], ((0,), 0))
        self.assert_last(NONE, None, [("given", 0), ("given", 1), ("sum", [(0, 3), (1, 2)])], ((), 1))

    def test_wrong_sums(self):
        for parts in ([], [(2, 1)], [(3, 1)], [(-1, 1)], [(0, -1)], [(0, 1), (1, -2)], [(0, 1), (2, 1)]):
            self.assert_wrong(PROBLEM, None, self.GIVEN + [("sum", parts)])


class Share(PaperCase):
    def assert_share(self, row, by, asked):
        self.assert_last(([row], (0,) * len(row[0])), None, [("given", 0), ("share", 0, by)], asked)

    def test_by_one(self):
        self.assert_share(((3, -5), 7), 1, ((3, -5), 7))
        self.assert_share(((3, -5), -7), 1, ((3, -5), -7))

    def test_leasts_are_rounded_up(self):
        for least, asked in ((6, 2), (7, 3), (8, 3), (9, 3), (1, 1), (0, 0), (-1, 0), (-2, 0), (-3, -1), (-4, -1)):
            self.assert_share(((3, -6, 0), least), 3, ((1, -2, 0), asked))
        self.assert_share(((GREAT,), GREAT + 1), GREAT, ((1,), 2))
        self.assert_share(((GREAT,), -GREAT - 1), GREAT, ((1,), -1))

    def test_noughts_and_no_numbers(self):
        self.assert_share(((0, 0), 5), 2, ((0, 0), 3))
        self.assert_share(((0, 0), 1), GREAT, ((0, 0), 1))
        self.assert_share(((), -5), 2, ((), -2))

    def test_what_does_not_divide(self):
        for by in (2, 4, 6, 5, 0, -1, -3):
            self.assert_wrong(([((3, -6), 6)], (0, 0)), None, [("given", 0), ("share", 0, by)])
        self.assert_wrong(([((4, 2, 1), 4)], (0, 0, 0)), None, [("given", 0), ("share", 0, 2)])
        self.assert_wrong(([((1, 2, 4), 4)], (0, 0, 0)), None, [("given", 0), ("share", 0, 2)])
        for by in (0, -1):
            self.assert_wrong(([((), 4)], ()), None, [("given", 0), ("share", 0, by)])
            self.assert_wrong(([((0,), 4)], (0,)), None, [("given", 0), ("share", 0, by)])

    def test_lines_that_are_not_there(self):
        for place in (1, 2, -1):
            self.assert_wrong(PROBLEM, None, [("given", 0), ("share", place, 1)])


class Shut(PaperCase):
    def assert_shut(self, row, holds, asked):
        self.assert_last(([row], (0,) * len(row[0])), None, [("given", 0), ("shut", 0, holds)], asked)

    def assert_open(self, row, holds):
        self.assert_wrong(([row], (0,) * len(row[0])), None, [("given", 0), ("shut", 0, holds)])

    def test_no_holds(self):
        self.assert_shut(((2, -3), 3), [], ((0, 0), 1))
        self.assert_open(((2, -3), 2), [])
        self.assert_shut(((), 1), [], ((), 1))
        self.assert_open(((), 0), [])

    def test_some_holds(self):
        row = (4, -3, 0, 2)
        self.assert_shut((row, 3), [(0, 0)], ((1, 0, 0, 0), 1))
        self.assert_open((row, 2), [(0, 0)])
        self.assert_shut((row, 4), [(1, 1)], ((0, -1, 0, 0), 0))
        self.assert_open((row, 3), [(1, 1)])
        self.assert_shut((row, 2), [(3, 0), (1, 1)], ((0, -1, 0, 1), 0))
        self.assert_open((row, 1), [(3, 0), (1, 1)])
        self.assert_shut((row, 7), [(2, 1)], ((0, 0, -1, 0), 0))

    def test_all_held(self):
        self.assert_shut(((4, -3, 2), 2), [(2, 0), (0, 1), (1, 1)], ((-1, -1, 1), -1))
        self.assert_open(((4, -3, 2), 1), [(2, 0), (0, 1), (1, 1)])
        self.assert_shut(((4, -3, 2), 1), [(0, 0), (1, 0), (2, 0)], ((1, 1, 1), 1))
        self.assert_shut(((4, -3, 2), 4), [(0, 1), (1, 1), (2, 1)], ((-1, -1, -1), -2))

    def test_below_nought(self):
        self.assert_shut(((-5, -5), -4), [(1, 1)], ((0, -1), 0))
        self.assert_open(((-5, -5), -5), [(1, 1)])

    def test_a_told_row_of_another_line(self):
        paper = [("low", 0), ("given", 0), ("low", 1), ("shut", 1, [(0, 0)])]
        self.assert_last(([((1, 0), 1)], (0, 0)), None, paper, ((1, 0), 1))

    def test_wrong_holds(self):
        row = ((1, 1, 1), 9)
        for holds in (
            [(0, 0), (0, 0)], [(0, 0), (0, 1)], [(1, 1), (2, 0), (1, 1)], [(3, 0)], [(-1, 0)], [(0, 2)], [(0, -1)],
            [(0, 1), (1, 2)], [(0,)], [(0, 1, 0)], [()],
        ):
            self.assert_open(row, holds)
        for place in (1, -1, 5):
            self.assert_wrong(([row], (0, 0, 0)), None, [("given", 0), ("shut", place, [])])


class Either(PaperCase):
    def paper(self, rows, choice, order=(0, 1)):
        return ((rows, (0,) * len(rows[0][0])), None, [("given", 0), ("given", 1), ("either",) + order + (choice,)])

    def assert_either(self, rows, choice, asked, order=(0, 1)):
        self.assert_last(*self.paper(rows, choice, order), asked)

    def test_only_the_number_at_the_choice_differs(self):
        rows = [((2, -3, 5), 4), ((2, 7, 5), 6)]
        self.assert_either(rows, 1, ((2, 0, 5), 6))
        self.assert_either(rows, 1, ((2, 0, 5), -1), (1, 0))
        self.assert_either([((2, -3), 9), ((2, 7), 6)], 1, ((2, 0), 6))
        self.assert_either([((2, -3), -9), ((2, 7), 6)], 1, ((2, 0), -6))
        self.assert_either([((2, -3), 3), ((2, 7), 6)], 1, ((2, 0), 6))
        self.assert_either([((2, -3), 2), ((2, 7), 6)], 1, ((2, 0), 5))

    def test_ends(self):
        self.assert_either([((1, 5), 1), ((-1, 5), 3)], 0, ((0, 5), 0))
        self.assert_either([((5, 1), 1), ((5, -1), -3)], 1, ((5, 0), -3))
        self.assert_either([((6,), 4), ((-2,), -1)], 0, ((0,), -2))

    def test_alike_numbers(self):
        self.assert_either([((1, 2), 3), ((1, 2), 5)], 0, ((0, 2), 2))
        self.assert_either([((1, 0), 3), ((1, 0), 1)], 1, ((1, 0), 1))

    def test_the_same_line(self):
        self.assert_either([((4, 2), 3), ((0, 0), 0)], 0, ((0, 2), -1), (0, 0))
        self.assert_either([((-4, 2), 3), ((0, 0), 0)], 0, ((0, 2), 3), (0, 0))

    def test_another_number_differs(self):
        rows = [((2, -3, 5), 4), ((2, 7, 5), 6)]
        for choice in (0, 2):
            self.assert_wrong(*self.paper(rows, choice))
        for other in ((3, 7, 5), (2, 7, 6), (2, 7, -5), (0, 7, 5)):
            self.assert_wrong(*self.paper([rows[0], (other, 6)], 1))

    def test_what_is_not_there(self):
        rows = [((2, 3), 4), ((2, 3), 6)]
        for choice in (2, -1, 60):
            self.assert_wrong(*self.paper(rows, choice))
        for order in ((2, 0), (0, 2), (-1, 0), (0, -1), (3, 3)):
            self.assert_wrong(*self.paper(rows, 0, order))
        self.assert_wrong(NONE, None, [("given", 0), ("given", 1), ("either", 0, 1, 0)])


class Like(PaperCase):
    def test_a_turn_that_keeps_the_problem(self):
        self.assert_told(TWINS, None, [("like", [1, 0, 2])], [((2, -2, 0), 0)])
        self.assert_told(TWINS, 5, [("like", [0, 1, 2])], [((0, 0, 0), 0)])

    def test_longer_turns(self):
        ring = ([((1, 1, 1, 1), 2)], (3, 3, 3, 3))
        # 8 at 0, 4 at 1, 2 at 2 and 1 at 3; less the same at turn[0], turn[1], turn[2] and turn[3].
        self.assert_told(ring, None, [("like", [1, 2, 3, 0])], [((7, -4, -2, -1), 0)])
        self.assert_told(ring, None, [("like", [3, 0, 1, 2])], [((4, 2, 1, -7), 0)])
        self.assert_told(ring, None, [("like", [2, 3, 0, 1])], [((6, 3, -6, -3), 0)])
        self.assert_told(ring, None, [("like", [0, 3, 1, 2])], [((0, 2, 1, -3), 0)])

    def test_no_choices_and_one(self):
        self.assert_told(NONE, None, [("like", [])], [((), 0)])
        self.assert_told(ONE, None, [("like", [0])], [((0,), 0)])

    def test_sixty_choices(self):
        problem = ([((1,) * 60, 3)], (7,) * 60)
        turn = [59] + list(range(1, 59)) + [0]
        row = ((2 ** 59 - 1,) + (0,) * 58 + (1 - 2 ** 59,), 0)
        self.assert_told(problem, None, [("like", turn)], [row])

    def test_turns_that_do_not_keep_it(self):
        for turn in ([0, 2, 1], [2, 1, 0], [1, 2, 0], [2, 0, 1]):
            self.assert_wrong(TWINS, None, [("like", turn)])
        self.assert_wrong((TWINS[0], (4, 5, 9)), None, [("like", [1, 0, 2])])
        self.assert_wrong(([((1, 0), 1), ((0, 1), 2)], (4, 4)), None, [("like", [1, 0])])
        self.assert_wrong(([((1, 0), 1), ((0, 1), 1), ((0, 1), 1)], (4, 4)), None, [("like", [1, 0])])

    def test_lists_that_are_no_turns(self):
        free = ([], (0, 0, 0))
        self.assert_told(free, None, [("like", [1, 2, 0])], [((3, -2, -1), 0)])
        for turn in (
            [], [0], [0, 1], [0, 1, 2, 3], [0, 1, 2, 0], [0, 0, 2], [1, 1, 1], [0, 1, 3], [0, 1, -1], [-3, -2, -1],
            [0, 1, None], [0, 1, "2"], [False, True, 2], [0, True, 2], [False, 1, 2], [0, 1, [2]], [0, 1, (2,)],
            (0, 1, 2), "012", None, True, 3, [[0, 1, 2]], [(0, 1, 2)],
        ):
            self.assert_wrong(free, None, [("like", turn)])
        for turn in ([0], (), None, "", False, 0, [[]]):
            self.assert_wrong(NONE, None, [("like", turn)])


class NoRightLine(PaperCase):
    START = [("given", 0), ("given", 1), ("given", 2)]
    # One right line of each word, behind the three above.
    RIGHT = [
        ("given", 1), ("low", 1), ("high", 1), ("better",), ("sum", [(1, 1), (0, 0)]), ("share", 1, 1),
        ("shut", 1, [(1, 1), (0, 1), (2, 0)]), ("shut", 2, []), ("either", 1, 1, 1), ("like", [0, 1, 2]),
    ]
    # Whatever place a whole number or a list is asked for: none of these fits in any.
    NOTHINGS = [
        None, True, False, "", "0", "1", "given", "low", (), (0,), (1,), (1, 1), ((1, 1),), ((1, 1), (0, 1)),
        [None], [True], ["0"], [[]], [()], [[1, 1]], [(True, 1)], [(1, True)], [(1, False)], [(False, 1)],
        [(1, None)], [("1", 1)], [(1, "1")], [(1,)], [(1, 1, 1)], [[(1, 1)]], [((1, 1),)], [(1, (1,))], [([1], 1)],
        -1, -2,
    ]

    def assert_all_wrong(self, lines):
        for line in lines:
            self.assert_wrong(PROBLEM, 9, self.START + [line])

    def test_the_right_ones_are_right(self):
        for line in self.RIGHT:
            self.assertEqual(len(rows_told(PROBLEM, 9, self.START + [line])), 4, line)

    def test_in_the_place_of_a_line(self):
        self.assert_all_wrong(self.NOTHINGS + [0, 1, 5, "better", ["better"], [["better"]], (("better",),), ("",)])
        for thing in self.NOTHINGS:
            self.assert_wrong(NONE, None, [thing])

    def test_lists_in_the_place_of_a_line(self):
        self.assert_all_wrong([list(line) for line in self.RIGHT])
        self.assert_all_wrong([[line] for line in self.RIGHT] + [(line,) for line in self.RIGHT])

    def test_in_the_place_of_a_word(self):
        for line in self.RIGHT:
            self.assert_all_wrong([(thing,) + line[1:] for thing in self.NOTHINGS if thing not in ("given", "low")])
            words = ("Given", "given ", " low", "SUM", "add", "better\n", "likes", "hig", "shut-out", ["low"], 0, 7)
            self.assert_all_wrong([(word,) + line[1:] for word in words])

    def test_in_the_place_of_a_part(self):
        for line in self.RIGHT:
            for place in range(1, len(line)):
                self.assert_all_wrong([line[:place] + (thing,) + line[place + 1:] for thing in self.NOTHINGS])

    def test_truths_for_numbers(self):
        self.assert_all_wrong([
            ("given", True), ("given", False), ("low", True), ("low", False), ("high", True), ("high", False),
            ("share", True, 1), ("share", False, 1), ("share", 1, True), ("shut", True, [(1, 1), (0, 1), (2, 0)]),
            ("either", True, 1, 1), ("either", 1, True, 1), ("either", 1, 1, True), ("either", 0, 0, False),
            ("either", False, 0, 1), ("either", 0, False, 1), ("like", [False, True, 2]),
            ("sum", [(1, 1), (False, 1)]), ("sum", [(1, 1), (1, False)]), ("sum", [(1, True), (1, 1)]),
            ("shut", 2, [(True, 1)]), ("shut", 2, [(False, 1)]), ("shut", 2, [(1, True)]), ("shut", 2, [(1, False)]),
        ])

    def test_too_few_and_too_many_parts(self):
        for line in self.RIGHT:
            self.assert_all_wrong([line[:length] for length in range(len(line))])
            self.assert_all_wrong([line + (thing,) for thing in self.NOTHINGS + [0, 1, []]])

    def test_tuples_for_lists_and_lists_for_tuples(self):
        self.assert_all_wrong([
            ("sum", ((1, 1),)), ("sum", [[1, 1]]), ("sum", [(1, 1), [1, 1]]), ("sum", (1, 1)), ("sum", 1, 1),
            ("shut", 2, ()), ("shut", 2, ((1, 1),)), ("shut", 2, [[1, 1]]), ("shut", 2, [(1, 1), [0, 1]]),
            ("shut", 2, (1, 1)), ("like", (0, 1, 2)), ("like", 0, 1, 2), ("shut", 2, "", ), ("sum", ""), ("like", ""),
        ])

    def test_lines_that_are_not_there_yet(self):
        for number in (3, 4, -1, -3, 3000):
            self.assert_all_wrong([
                ("sum", [(number, 1)]), ("sum", [(0, 1), (number, 1)]), ("sum", [(number, 0)]), ("share", number, 1),
                ("shut", number, []), ("either", number, 1, 1), ("either", 1, number, 1),
            ])
        self.assert_wrong(PROBLEM, 9, [("sum", [(0, 1)])])
        self.assert_wrong(PROBLEM, 9, [("sum", [(1, 1)])])

    def test_texts_and_nothing_in_parts(self):
        for thing in (None, "", "1", (), [], (1,), [1], ((1, 1),)):
            self.assert_all_wrong([
                ("sum", [thing]), ("sum", [(1, 1), thing]), ("sum", [(thing, 1)]), ("sum", [(1, thing)]),
                ("shut", 2, [thing]), ("shut", 2, [(1, 1), thing]), ("shut", 2, [(thing, 1)]),
                ("shut", 2, [(1, thing)]), ("like", [thing, 1, 2]), ("like", [0, 1, thing]),
            ])

    def test_great_numbers(self):
        for line in (("given", GREAT), ("low", GREAT), ("share", GREAT, 1), ("share", 1, GREAT), ("given", -GREAT)):
            self.assert_all_wrong([line])


class FirstWrongLine(PaperCase):
    def test_it_stops_there(self):
        paper = [("given", 0), ("low", 0), ("given", 9), ("low", 1), ("given", 9)]
        self.assert_told(PROBLEM, None, paper, [((3, -2, 0), -4), ((1, 0, 0), 0)])
        self.assertEqual(judged(PROBLEM, None, paper), 2)

    def test_what_stands_behind_it_does_not_count(self):
        # The last line would be let by.
        problem = ([((1,), 2)], (0,))
        self.assertIsNone(judged(problem, None, [("given", 0), ("shut", 0, [])]))
        self.assertEqual(judged(problem, None, [("given", 0), ("given", 1), ("shut", 0, [])]), 1)
        self.assertEqual(judged(problem, None, [("better",), ("given", 0), ("shut", 1, [])]), 0)
        self.assertEqual(judged(problem, None, [("given", 0), ("shut", 0, []), None]), 2)

    def test_no_lines(self):
        for problem in (PROBLEM, ONE, NONE):
            self.assert_told(problem, None, [], [])


class Judged(unittest.TestCase):
    def assert_judged(self, problem, best, paper, asked):
        ahead = copy.deepcopy((problem, best, paper))
        told = judged(problem, best, paper)
        self.assertEqual((problem, best, paper), ahead)
        self.assertIs(type(told), type(asked))
        self.assertEqual(told, asked)

    def test_let_by(self):
        self.assert_judged(([((1, 1), 3)], (0, 0)), None, [("given", 0), ("shut", 0, [])], None)
        self.assert_judged(NONE, None, [("given", 0)], None)
        self.assert_judged(([((0, 0), 1)], (0, 0)), None, [("given", 0)], None)
        self.assert_judged(([((0, 0), 5)], (0, 0)), 3, [("given", 0)], None)
        # At least one of two that cost 5 each: none costs less than 5.
        costly = ([((1, 1), 1)], (5, 5))
        paper = [("given", 0), ("better",), ("sum", [(0, 5), (1, 1)])]
        self.assert_judged(costly, 5, paper, None)
        self.assert_judged(costly, 4, paper, None)
        self.assert_judged(costly, 6, paper, 3)
        self.assert_judged(costly, None, paper, 1)

    def test_no_lines(self):
        for problem in (PROBLEM, ONE, NONE, ([((), 1)], ())):
            self.assert_judged(problem, None, [], 0)
            self.assert_judged(problem, 4, [], 0)

    def test_the_last_row_has_a_number(self):
        for row in (((1, 0), 9), ((0, -1), 9), ((0, 1), 1)):
            self.assert_judged(([row], (0, 0)), None, [("given", 0)], 1)
            self.assert_judged(([row], (0, 0)), None, [("given", 0), ("given", 0)], 2)

    def test_the_last_row_has_a_least_of_nought_or_below(self):
        for least in (0, -1, -GREAT):
            self.assert_judged(([((0, 0), least)], (0, 0)), None, [("given", 0)], 1)
            self.assert_judged(([((), least)], ()), None, [("given", 0)], 1)

    def test_only_the_last_row_counts(self):
        rows = [((0,), 1), ((1,), 0)]
        self.assert_judged((rows, (0,)), None, [("given", 0), ("given", 1)], 2)
        self.assert_judged((rows, (0,)), None, [("given", 1), ("given", 0)], None)

    def test_the_first_wrong_line(self):
        good = ("given", 0)
        problem = ([((0,), 1)], (0,))
        for wrong in (0, 1, 2, 5):
            paper = [good] * wrong + [("given", 1)] + [good] * (5 - wrong) + [None]
            self.assert_judged(problem, None, paper, wrong)

    def test_with_likes(self):
        # Just one of two choices that are alike: it is the first one, so that nothing is left for the second.
        problem = ([((1, 1), 1), ((-1, -1), -1)], (3, 3))
        paper = [("like", [1, 0]), ("given", 0), ("sum", [(0, 1), (1, 1)]), ("share", 2, 2)]
        self.assertEqual(rows_told(problem, None, paper)[2:], [((2, 0), 1), ((1, 0), 1)])
        self.assert_judged(problem, None, paper, 4)
        paper += [("better",), ("low", 1), ("sum", [(4, 1), (3, 3), (5, 3)])]
        self.assert_judged(problem, 3, paper, None)
        self.assert_judged(problem, 4, paper, 7)
        self.assert_judged((problem[0], (3, 2)), 3, paper, 0)


class Right(unittest.TestCase):
    """The judge is right: all points of small problems are gone through."""

    def problem(self, chance):
        count = chance.randint(0, 4)
        size = chance.choice((1, 2, 5))
        rows = [self.row(chance, count, size) for _ in range(chance.randint(0, 3))]
        costs = [chance.randint(-size, size) for _ in range(count)]
        if count > 1 and chance.randint(0, 1):
            # Alike choices, so that turns keep the problem.
            one, other = chance.sample(range(count), 2)
            costs[other] = costs[one]
            swap = list(range(count))
            swap[one], swap[other] = other, one
            rows += [(tuple(row[0][place] for place in swap), row[1]) for row in rows]
        return (rows, tuple(costs))

    def row(self, chance, count, size):
        return (tuple(chance.randint(-size, size) for _ in range(count)), chance.randint(-size, size + 1))

    def line(self, chance, problem, told):
        count = len(problem[1])
        line = chance.randrange(len(told) + 1)
        choice = chance.randrange(count + 1)
        held = chance.sample(range(count), chance.randint(0, count))
        return chance.choice((
            ("given", chance.randrange(len(problem[0]) + 1)), ("low", choice), ("high", choice), ("better",),
            ("sum", [(chance.randrange(len(told) + 1), chance.randint(0, 3)) for _ in range(chance.randint(1, 3))]),
            ("share", line, chance.randint(1, 3)),
            ("shut", line, [(here, chance.randint(0, 1)) for here in held]),
            ("shut", line, [(here, chance.randint(0, 1)) for here in held]),
            ("either", line, chance.randrange(len(told) + 1), choice),
            ("like", chance.sample(range(count), count)),
        ))

    def paper(self, chance, problem, best):
        paper = []
        for _ in range(40):
            told = rows_told(problem, best, paper)
            line = self.line(chance, problem, told)
            if len(rows_told(problem, best, paper + [line])) > len(paper):
                paper.append(line)
        return paper

    def rests_on_like(self, paper):
        rests = []
        for line in paper:
            named = []
            if line[0] == "sum":
                named = [place for place, _ in line[1]]
            if line[0] in ("share", "shut"):
                named = [line[1]]
            if line[0] == "either":
                named = [line[1], line[2]]
            rests.append(line[0] == "like" or any(rests[place] for place in named))
        return rests

    def left(self, problem, best):
        """The points that keep the problem and cost less than best."""
        return [
            point for point in points(len(problem[1]))
            if keeps(problem, point) and (best is None or cost_of(problem, point) < best)
        ]

    def greatest(self, problem, point):
        turns = [list(turn) for turn in itertools.permutations(range(len(point))) if turn_keeps(problem, list(turn))]
        return max(tuple(point[place] for place in turn) for turn in turns)

    def test_what_lines_tell_is_kept(self):
        chance = random.Random(20)
        seen = {}
        for _ in range(250):
            problem = self.problem(chance)
            best = chance.choice((None, chance.randint(-4, 8)))
            paper = self.paper(chance, problem, best)
            told = rows_told(problem, best, paper)
            self.assertEqual(len(told), len(paper))
            left = self.left(problem, best)
            for line, row, on_like in zip(paper, told, self.rests_on_like(paper)):
                seen[line[0]] = seen.get(line[0], 0) + (len(left) > 0)
                if not on_like:
                    self.assertTrue(all(kept(row, point) for point in left), (problem, best, paper, row))
            for point in left:
                first = self.greatest(problem, point)
                self.assertTrue(all(kept(row, first) for row in told), (problem, best, paper))
        self.assertEqual(len(seen), 9)
        self.assertGreater(min(seen.values()), 20, seen)

    def test_what_is_let_by(self):
        chance = random.Random(21)
        let_by = 0
        for _ in range(250):
            problem = self.problem(chance)
            best = chance.choice((None, chance.randint(-6, 4)))
            paper = self.paper(chance, problem, best)
            for length in range(len(paper) + 1):
                if judged(problem, best, paper[:length]) is None:
                    let_by += 1
                    self.assertEqual(self.left(problem, best), [], (problem, best, paper[:length]))
        self.assertGreater(let_by, 100)

    def test_papers_of_the_program(self):
        chance = random.Random(22)
        let_by = 0
        for _ in range(1500):
            problem = self.problem(chance)
            best = chance.choice((None, chance.randint(-6, 6)))
            multipliers = corner(problem[0], problem[1])[0]
            for paper in (passed_lines(problem, best, []), bound_lines(problem, best, multipliers, [])):
                if paper is not None:
                    let_by += 1
                    self.assertIsNone(judged(problem, best, paper))
                    self.assertEqual(self.left(problem, best), [])
        self.assertGreater(let_by, 500)

    def test_for_another_best_it_is_another_paper(self):
        chance = random.Random(23)
        refused = 0
        for _ in range(600):
            problem = self.problem(chance)
            multipliers = corner(problem[0], problem[1])[0]
            best = chance.randint(-6, 6)
            paper = bound_lines(problem, best, multipliers, [])
            if paper is not None:
                for other in (None,) + tuple(range(best - 3, best + 4)):
                    if self.left(problem, other):
                        refused += 1
                        self.assertIsNotNone(judged(problem, other, paper))
        self.assertGreater(refused, 100)


class Sizes(unittest.TestCase):
    def problem(self):
        base = [(7 * place * place + 3 * place) % 19 - 9 for place in range(60)]
        rows = [(tuple(base[(place + step) % 60] for place in range(60)), -(step // 60)) for step in range(360)]
        rows += [((GREAT,) * 60, least) for least in range(40)]
        return (rows, (GREAT,) * 60)

    def test_three_thousand_lines(self):
        problem = self.problem()
        paper = [("given", number % 400) for number in range(800)]
        paper += [("low", number % 60) for number in range(400)] + [("high", number % 60) for number in range(400)]
        paper += [("sum", [(number, GREAT), (399, number), (0, 1)]) for number in range(800)]
        paper += [("share", number, 1) for number in range(399)]
        paper += [("like", list(range(60)))]
        paper += [("either", number, number, number % 60) for number in range(198)]
        paper += [("better",), ("shut", 2998, [(choice, 1) for choice in range(60)])]
        self.assertEqual(len(paper), 3000)
        told = rows_told(problem, 60 * GREAT, paper)
        self.assertEqual(len(told), 3000)
        self.assertEqual(told[-1], ((-1,) * 60, -59))
        self.assertEqual(judged(problem, 60 * GREAT, paper), 3000)
        last = [("sum", [(800 + choice, 1) for choice in range(60)] + [(2999, 1)])]
        self.assertEqual(judged(problem, 60 * GREAT, paper[:-1] + [None]), 2999)
        self.assertEqual(rows_told(problem, 60 * GREAT, paper + last)[-1], ((0,) * 60, -59))

    def test_sums_of_sums(self):
        paper = [("given", 0)] + [("sum", [(number, GREAT)]) for number in range(300)]
        row = rows_told(([((1, -1), 1)], (0, 0)), None, paper)[-1]
        self.assertEqual(row, ((GREAT ** 300, -GREAT ** 300), GREAT ** 300))

    def test_many_turns(self):
        problem = self.problem()
        turns = [("like", [(choice + step % 60) % 60 for choice in range(60)]) for step in range(120)]
        self.assertEqual(len(rows_told(problem, None, turns)), 120)


class HandedIn(unittest.TestCase):
    PAPER = [
        ("given", 0), ("given", 1), ("sum", [(0, 2), (1, 1)]), ("shut", 2, [(0, 0)]), ("like", [1, 0]), ("better",),
    ]
    PROBLEM = ([((1, 0), 1), ((0, 1), 1)], (4, 4))

    def test_changes_behind_change_no_answer(self):
        problem = copy.deepcopy(self.PROBLEM)
        paper = copy.deepcopy(self.PAPER)
        told = rows_told(problem, 8, paper)
        asked = copy.deepcopy(told)
        self.assertEqual(len(told), 6)
        problem[0].clear()
        paper[2][1].clear()
        paper[3][2].append((1, 1))
        paper[4][1].reverse()
        paper.pop()
        self.assertEqual(told, asked)

    def test_what_was_told_is_the_askers_own(self):
        told = rows_told(self.PROBLEM, 8, self.PAPER)
        asked = list(told)
        told.clear()
        self.assertEqual(rows_told(self.PROBLEM, 8, self.PAPER), asked)
        first = rows_told(self.PROBLEM, 8, [])
        first.append("mine")
        self.assertEqual(rows_told(self.PROBLEM, 8, []), [])

    def test_lists_changed_between_calls_are_asked_anew(self):
        problem = ([((0,), 1)], (0,))
        paper = [("given", 0)]
        self.assertIsNone(judged(problem, None, paper))
        paper.append(("low", 0))
        self.assertEqual(judged(problem, None, paper), 2)
        problem[0].clear()
        self.assertEqual(judged(problem, None, paper), 0)


if __name__ == "__main__":
    unittest.main()
