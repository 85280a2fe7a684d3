"""Rows, points, holds and turns."""

import copy
import itertools
import unittest

from nonebetter.rows import cost_of, kept, keeps, most_of, turn_keeps, turned

GREAT = 10 ** 18 - 1


def points(count):
    return list(itertools.product((0, 1), repeat=count))


def turns(count):
    return [list(turn) for turn in itertools.permutations(range(count))]


class Kept(unittest.TestCase):
    def test_just_the_least_one_more_and_one_less(self):
        numbers = (3, -2, 5, 7)
        point = (1, 1, 1, 0)
        self.assertIs(kept((numbers, 6), point), True)
        self.assertIs(kept((numbers, 5), point), True)
        self.assertIs(kept((numbers, 7), point), False)

    def test_below_nought(self):
        self.assertIs(kept(((-1, -1), -1), (1, 0)), True)
        self.assertIs(kept(((-1, -1), -1), (0, 0)), True)
        self.assertIs(kept(((-1, -1), -1), (1, 1)), False)

    def test_no_choices(self):
        self.assertIs(kept(((), -1), ()), True)
        self.assertIs(kept(((), 0), ()), True)
        self.assertIs(kept(((), 1), ()), False)

    def test_only_numbers_where_the_point_has_one_count(self):
        for point in points(4):
            asked = 1 * point[0] + 2 * point[1] + 4 * point[2] - 8 * point[3]
            self.assertIs(kept(((1, 2, 4, -8), asked), point), True)
            self.assertIs(kept(((1, 2, 4, -8), asked + 1), point), False)

    def test_eighteen_figures(self):
        point = (1,) * 60
        row = ((GREAT,) * 60, 60 * GREAT)
        self.assertIs(kept(row, point), True)
        self.assertIs(kept((row[0], row[1] + 1), point), False)
        self.assertIs(kept(((GREAT, -GREAT, 1), 1), (1, 1, 1)), True)
        self.assertIs(kept(((GREAT, -GREAT, 1), 2), (1, 1, 1)), False)
        self.assertIs(kept(((-GREAT,), -GREAT), (1,)), True)
        self.assertIs(kept(((-GREAT,), 1 - GREAT), (1,)), False)


class Keeps(unittest.TestCase):
    def test_all_rows_are_asked(self):
        rows = [((1, 0), 1), ((0, 1), 1)]
        self.assertIs(keeps((rows, (0, 0)), (1, 1)), True)
        self.assertIs(keeps((rows, (0, 0)), (1, 0)), False)
        self.assertIs(keeps((rows, (0, 0)), (0, 1)), False)
        self.assertIs(keeps((rows, (0, 0)), (0, 0)), False)

    def test_a_row_in_the_middle_counts(self):
        rows = [((1,), 0), ((1,), 1), ((1,), 0)]
        self.assertIs(keeps((rows, (0,)), (0,)), False)
        self.assertIs(keeps((rows, (0,)), (1,)), True)

    def test_just_the_least_one_more_and_one_less(self):
        for least, asked in ((4, True), (5, True), (6, False)):
            self.assertIs(keeps(([((2, 3), least)], (0, 0)), (1, 1)), asked)

    def test_no_rows(self):
        self.assertIs(keeps(([], (1, 2)), (0, 1)), True)
        self.assertIs(keeps(([], ()), ()), True)

    def test_no_choices(self):
        self.assertIs(keeps(([((), 0), ((), -3)], ()), ()), True)
        self.assertIs(keeps(([((), 0), ((), 1)], ()), ()), False)

    def test_the_costs_do_not_count(self):
        self.assertIs(keeps(([((1, 1), 1)], (-GREAT, GREAT)), (1, 0)), True)
        self.assertIs(keeps(([((1, 1), 1)], (-GREAT, GREAT)), (0, 0)), False)

    def test_eighteen_figures_and_below_nought(self):
        rows = [((GREAT, GREAT), 2 * GREAT), ((-GREAT, -GREAT), -2 * GREAT)]
        self.assertIs(keeps((rows, (0, 0)), (1, 1)), True)
        self.assertIs(keeps((rows + [((-GREAT, -GREAT), 1 - 2 * GREAT)], (0, 0)), (1, 1)), False)


class CostOf(unittest.TestCase):
    def assert_costs(self, costs, point, asked):
        # Rows that the point does not keep change nothing of what it costs.
        for rows in ([], [((9,) * len(costs), GREAT * 100)]):
            cost = cost_of((rows, costs), point)
            self.assertIs(type(cost), int)
            self.assertEqual(cost, asked)

    def test_sums(self):
        self.assert_costs((3, 5, 7), (1, 0, 1), 10)
        self.assert_costs((3, 5, 7), (0, 0, 0), 0)
        self.assert_costs((3, 5, 7), (1, 1, 1), 15)

    def test_each_choice_has_its_own(self):
        for point in points(4):
            asked = point[0] + 10 * point[1] + 100 * point[2] + 1000 * point[3]
            self.assert_costs((1, 10, 100, 1000), point, asked)

    def test_no_choices(self):
        self.assert_costs((), (), 0)

    def test_below_nought(self):
        self.assert_costs((-3, 5), (1, 0), -3)
        self.assert_costs((-3, 5), (1, 1), 2)
        self.assert_costs((-3, -5), (1, 1), -8)

    def test_eighteen_figures(self):
        self.assert_costs((GREAT,) * 60, (1,) * 60, 60 * GREAT)
        self.assert_costs((-GREAT, 1), (1, 1), 1 - GREAT)


class MostOf(unittest.TestCase):
    NUMBERS = (4, -3, 0, 2, -1)

    def assert_most(self, numbers, holds, asked):
        # The least does not count.
        for least in (-100, 0, 100):
            most = most_of((numbers, least), holds)
            self.assertIs(type(most), int)
            self.assertEqual(most, asked)

    def test_no_holds(self):
        self.assert_most(self.NUMBERS, [], 6)
        self.assert_most((-1, -2), [], 0)
        self.assert_most((0, 0), [], 0)

    def test_one_hold(self):
        self.assert_most(self.NUMBERS, [(0, 0)], 2)
        self.assert_most(self.NUMBERS, [(0, 1)], 6)
        self.assert_most(self.NUMBERS, [(1, 0)], 6)
        self.assert_most(self.NUMBERS, [(1, 1)], 3)
        self.assert_most(self.NUMBERS, [(2, 0)], 6)
        self.assert_most(self.NUMBERS, [(2, 1)], 6)
        self.assert_most(self.NUMBERS, [(4, 1)], 5)

    def test_holds_in_any_order(self):
        holds = [(0, 0), (1, 1), (3, 1)]
        for order in itertools.permutations(holds):
            self.assert_most(self.NUMBERS, list(order), -1)

    def test_all_held(self):
        self.assert_most(self.NUMBERS, [(choice, 1) for choice in range(5)], 2)
        self.assert_most(self.NUMBERS, [(choice, 0) for choice in range(5)], 0)
        self.assert_most(self.NUMBERS, [(4, 1), (2, 0), (0, 0), (3, 1), (1, 1)], -2)

    def test_no_choices(self):
        self.assert_most((), [], 0)

    def test_eighteen_figures(self):
        self.assert_most((GREAT,) * 60, [], 60 * GREAT)
        self.assert_most((-GREAT,) * 60, [(choice, 1) for choice in range(60)], -60 * GREAT)

    def test_it_is_the_most_of_all_points_that_have_the_holds(self):
        for worths in itertools.product((0, 1, None), repeat=5):
            holds = [(choice, worth) for choice, worth in enumerate(worths) if worth is not None]
            sums = [
                sum(number * here for number, here in zip(self.NUMBERS, point))
                for point in points(5)
                if all(point[choice] == worth for choice, worth in holds)
            ]
            self.assert_most(self.NUMBERS, holds[::-1], max(sums))


class Turned(unittest.TestCase):
    def test_a_turn_that_is_not_its_own_way_back(self):
        self.assertEqual(turned(((10, 20, 30), 5), [1, 2, 0]), ((30, 10, 20), 5))
        self.assertEqual(turned(((10, 20, 30), 5), [2, 0, 1]), ((20, 30, 10), 5))
        self.assertEqual(turned(((1, 2, 3, 4), -7), [1, 3, 0, 2]), ((3, 1, 4, 2), -7))

    def test_the_number_of_each_choice_is_at_its_place(self):
        numbers = (7, -8, 0, 9)
        for turn in turns(4):
            row = turned((numbers, 3), turn)
            self.assertIs(type(row), tuple)
            self.assertIs(type(row[0]), tuple)
            self.assertEqual([row[0][turn[i]] for i in range(4)], list(numbers))
            self.assertEqual((len(row), len(row[0]), row[1]), (2, 4, 3))

    def test_the_turn_that_leaves_all(self):
        self.assertEqual(turned(((4, 5), 6), [0, 1]), ((4, 5), 6))

    def test_an_exchange(self):
        self.assertEqual(turned(((4, 5, 6), 0), [2, 1, 0]), ((6, 5, 4), 0))

    def test_no_choices(self):
        self.assertEqual(turned(((), -4), []), ((), -4))
        self.assertEqual(turned(((), 4), []), ((), 4))

    def test_changing_the_turn_behind_changes_no_answer(self):
        turn = [1, 2, 0]
        row = turned(((10, 20, 30), 5), turn)
        turn[0] = 0
        turn.append(9)
        self.assertEqual(row, ((30, 10, 20), 5))


class TurnKeeps(unittest.TestCase):
    def test_the_turn_that_leaves_all(self):
        self.assertIs(turn_keeps(([((1, 2), 3), ((1, 2), 3)], (4, 5)), [0, 1]), True)

    def test_rows_in_another_order(self):
        rows = [((1, 2, 0), 1), ((0, 1, 2), 1), ((2, 0, 1), 1)]
        for order in itertools.permutations(rows):
            for turn in turns(3):
                self.assertIs(turn_keeps((list(order), (7, 7, 7)), turn), turn in ([0, 1, 2], [1, 2, 0], [2, 0, 1]))

    def test_a_row_that_is_not_there_again(self):
        self.assertIs(turn_keeps(([((1, 2), 1)], (0, 0)), [1, 0]), False)
        self.assertIs(turn_keeps(([((1, 2), 1), ((2, 1), 1)], (0, 0)), [1, 0]), True)
        self.assertIs(turn_keeps(([((1, 2), 1), ((2, 1), 1), ((0, 1), 1)], (0, 0)), [1, 0]), False)

    def test_a_row_that_stands_twice_against_once(self):
        one = ((1, 2), 1)
        other = ((2, 1), 1)
        self.assertIs(turn_keeps(([one, one, other], (0, 0)), [1, 0]), False)
        self.assertIs(turn_keeps(([one, other, other], (0, 0)), [1, 0]), False)
        self.assertIs(turn_keeps(([one, other, other, one], (0, 0)), [1, 0]), True)

    def test_rows_that_differ_in_the_least_alone(self):
        self.assertIs(turn_keeps(([((1, 2), 1), ((2, 1), 2)], (0, 0)), [1, 0]), False)
        self.assertIs(turn_keeps(([((1, 2), 1), ((1, 2), 2), ((2, 1), 1), ((2, 1), 1)], (0, 0)), [1, 0]), False)
        self.assertIs(turn_keeps(([((1, 2), 1), ((1, 2), 2), ((2, 1), 2), ((2, 1), 1)], (0, 0)), [1, 0]), True)

    def test_costs_along_the_turn(self):
        rows = [((1, 1, 1), 1)]
        self.assertIs(turn_keeps((rows, (4, 4, 4)), [1, 2, 0]), True)
        self.assertIs(turn_keeps((rows, (4, 4, 5)), [1, 2, 0]), False)
        self.assertIs(turn_keeps((rows, (5, 4, 4)), [1, 2, 0]), False)
        self.assertIs(turn_keeps((rows, (4, 4, 5)), [1, 0, 2]), True)
        self.assertIs(turn_keeps((rows, (4, -4, 4)), [2, 1, 0]), True)
        self.assertIs(turn_keeps((rows, (4, -4, 4)), [1, 0, 2]), False)

    def test_no_rows(self):
        self.assertIs(turn_keeps(([], (4, 4)), [1, 0]), True)
        self.assertIs(turn_keeps(([], (4, 5)), [1, 0]), False)
        self.assertIs(turn_keeps(([], (4, 5)), [0, 1]), True)

    def test_no_choices(self):
        self.assertIs(turn_keeps(([], ()), []), True)
        self.assertIs(turn_keeps(([((), 1), ((), 0)], ()), []), True)

    def test_eighteen_figures(self):
        rows = [((GREAT, -GREAT), -GREAT), ((-GREAT, GREAT), -GREAT)]
        self.assertIs(turn_keeps((rows, (GREAT, GREAT)), [1, 0]), True)
        self.assertIs(turn_keeps((rows, (GREAT, GREAT - 1)), [1, 0]), False)
        self.assertIs(turn_keeps(([rows[0], ((1 - GREAT, GREAT), -GREAT)], (GREAT, GREAT)), [1, 0]), False)

    def test_the_way_a_turn_goes(self):
        # Only one of a turn and its way back leads the one row to the other; the other row must be led on too.
        one = ((1, 2, 3), 0)
        turn = [1, 2, 0]
        other = turned(one, turn)
        third = turned(other, turn)
        self.assertIs(turn_keeps(([one, other], (0, 0, 0)), turn), False)
        self.assertIs(turn_keeps(([third, one, other], (0, 0, 0)), turn), True)

    def test_all_turns_of_a_problem(self):
        # Choices 0 and 1 are alike, 2 and 3 are alike, and the pairs may be exchanged where the costs allow it.
        rows = [((1, 1, 0, 0), 1), ((0, 0, 1, 1), 1)]
        within = [[0, 1, 2, 3], [1, 0, 2, 3], [0, 1, 3, 2], [1, 0, 3, 2]]
        across = [[2, 3, 0, 1], [3, 2, 0, 1], [2, 3, 1, 0], [3, 2, 1, 0]]
        for turn in turns(4):
            self.assertIs(turn_keeps((rows, (6, 6, 6, 6)), turn), turn in within + across)
            self.assertIs(turn_keeps((rows, (6, 6, 8, 8)), turn), turn in within)


class HandedIn(unittest.TestCase):
    def assert_same_behind(self, deed, *handed):
        ahead = copy.deepcopy(handed)
        first = deed(*handed)
        self.assertEqual(handed, ahead)
        self.assertEqual(deed(*handed), first)
        self.assertEqual(handed, ahead)

    def test_what_was_handed_in_is_the_same(self):
        row = ((3, -2, 5), 1)
        problem = ([row, ((5, 3, -2), 1), ((-2, 5, 3), 1), ((0, 0, 0), -1)], (4, 4, 4))
        self.assert_same_behind(kept, row, (1, 0, 1))
        self.assert_same_behind(keeps, problem, (1, 0, 1))
        self.assert_same_behind(cost_of, problem, (1, 0, 1))
        self.assert_same_behind(most_of, row, [(2, 0), (0, 1)])
        self.assert_same_behind(turned, row, [1, 2, 0])
        self.assert_same_behind(turn_keeps, problem, [1, 2, 0])
        self.assert_same_behind(turn_keeps, problem, [1, 0, 2])

    def test_lists_changed_between_calls_are_asked_anew(self):
        problem = ([((1, 1), 1)], (4, 4))
        self.assertIs(keeps(problem, (1, 0)), True)
        self.assertIs(turn_keeps(problem, [1, 0]), True)
        problem[0].append(((0, 1), 1))
        self.assertIs(keeps(problem, (1, 0)), False)
        self.assertIs(turn_keeps(problem, [1, 0]), False)
        holds = [(0, 0)]
        self.assertEqual(most_of(((1, 1), 1), holds), 1)
        holds.append((1, 0))
        self.assertEqual(most_of(((1, 1), 1), holds), 0)


if __name__ == "__main__":
    unittest.main()
