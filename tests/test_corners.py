"""Spreads, multipliers, bounds, corners, and their papers."""

import copy
import itertools
import random
import unittest
from fractions import Fraction

import nonebetter.tableau
from nonebetter.corners import bound, bound_lines, corner
from nonebetter.judge import judged, rows_told
from nonebetter.rows import cost_of, keeps, most_of
from nonebetter.tableau import Tableau, settle

GREAT = 10 ** 18 - 1


def summed(numbers, worths):
    return sum(number * worth for number, worth in zip(numbers, worths))


def shut_out(count, holds):
    numbers = [0] * count
    for choice, worth in holds:
        numbers[choice] = -1 if worth == 1 else 1
    return (tuple(numbers), 1 - sum(worth for _, worth in holds))


def some_rows(chance, count, many, size):
    return [
        (tuple(chance.choice((0, 1)) * chance.randint(-size, size) for _ in range(count)), chance.randint(-size, size))
        for _ in range(many)
    ]


def rows_round(chance, worths, many, size):
    """Rows that a spread keeps, of them some but just."""
    rows = []
    for _ in range(many):
        numbers = tuple(chance.randint(-size, size) for _ in worths)
        rows.append((numbers, summed(numbers, worths) // 1 - chance.choice((0, 0, chance.randint(0, size)))))
    return rows


class Bound(unittest.TestCase):
    def assert_bound(self, rows, costs, multipliers, asked):
        ahead = copy.deepcopy((rows, costs, multipliers))
        told = bound(rows, costs, multipliers)
        self.assertEqual((rows, costs, multipliers), ahead)
        self.assertIs(type(told), int)
        self.assertEqual(told, asked)

    def test_each_part(self):
        rows = [((1, 2), 3), ((-1, 1), -2)]
        # 2 * 3 + 5 * -2; the sum of the rows is (-3, 9); 4 * 7 - -3 and 4 * 1 - 9.
        self.assert_bound(rows, (7, 1), (4, (2, 5)), -4 + 0 - 5)
        self.assert_bound(rows, (7, 3), (4, (2, 5)), -4)
        self.assert_bound(rows, (-1, 3), (4, (2, 5)), -4 - 1)
        self.assert_bound(rows, (-1, 2), (4, (2, 5)), -4 - 1 - 1)
        self.assert_bound(rows, (5, -6), (1, (0, 0)), -6)
        self.assert_bound(rows, (5, 6), (1, (0, 0)), 0)

    def test_no_rows(self):
        self.assert_bound([], (3, -4, -5), (2, ()), -18)
        self.assert_bound([], (3, -4, -5), (0, ()), 0)

    def test_no_choices(self):
        self.assert_bound([((), 3), ((), -1)], (), (2, (5, 4)), 11)
        self.assert_bound([], (), (7, ()), 0)

    def test_scale_nought(self):
        self.assert_bound([((1, 1), 3)], (9, 9), (0, (1,)), 1)
        self.assert_bound([((1, 1), 3)], (-9, 9), (0, (2,)), 2)
        self.assert_bound([((1, -1), 1)], (9, 9), (0, (1,)), 0)
        self.assert_bound([((1, -1), 1)], (9, 9), (0, (0,)), 0)

    def test_eighteen_figures(self):
        self.assert_bound([((GREAT,), GREAT)], (GREAT,), (GREAT, (GREAT,)), GREAT ** 2)
        self.assert_bound([((GREAT,), GREAT)], (-GREAT,), (GREAT, (GREAT,)), -GREAT ** 2)
        self.assert_bound([((-GREAT,) * 60, -GREAT)] * 400, (-GREAT,) * 60, (GREAT, (1,) * 400),
                          -400 * GREAT + 60 * (400 * GREAT - GREAT ** 2))

    def test_no_spread_costs_less(self):
        chance = random.Random(40)
        for _ in range(400):
            count = chance.randint(0, 3)
            rows = some_rows(chance, count, chance.randint(0, 3), 3)
            costs = tuple(chance.randint(-3, 3) for _ in range(count))
            multipliers = (chance.randint(0, 3), tuple(chance.randint(0, 3) for _ in rows))
            least = bound(rows, costs, multipliers)
            for spread in itertools.product((Fraction(0), Fraction(1, 3), Fraction(1, 2), Fraction(1)), repeat=count):
                if all(summed(row[0], spread) >= row[1] for row in rows):
                    self.assertGreaterEqual(multipliers[0] * summed(costs, spread), least)


class CornerCase(unittest.TestCase):
    def assert_corner(self, rows, costs):
        """All that is told of a corner; tells the spread as fractions, or None."""
        ahead = copy.deepcopy((rows, costs))
        told = corner(rows, costs)
        self.assertEqual((rows, costs), ahead)
        self.assertEqual([type(told), len(told), type(told[0]), len(told[0])], [tuple, 2, tuple, 2])
        scale, times = told[0]
        self.assertEqual([type(scale), type(times), len(times)], [int, tuple, len(rows)])
        for many in times:
            self.assertIs(type(many), int)
            self.assertGreaterEqual(many, 0)
        least = bound(rows, costs, told[0])
        if told[1] is None:
            self.assertEqual(scale, 0)
            self.assertGreaterEqual(least, 1)
            return None
        self.assertGreaterEqual(scale, 1)
        worths = self.worths(told[1], len(costs))
        for row in rows:
            self.assertGreaterEqual(summed(row[0], worths), row[1], (rows, costs))
        self.assertEqual(scale * summed(costs, worths), least, (rows, costs))
        return worths

    def worths(self, spread, count):
        self.assertEqual([type(spread), len(spread)], [tuple, count])
        for part in spread:
            self.assertEqual([type(part), len(part), type(part[0]), type(part[1])], [tuple, 2, int, int])
            self.assertGreaterEqual(part[1], 1)
            # Fraction puts into lowest terms: it changes nothing where they are lowest.
            self.assertEqual(Fraction(*part).as_integer_ratio(), part)
            self.assertTrue(0 <= part[0] <= part[1])
        return [Fraction(*part) for part in spread]

    def assert_spread(self, rows, costs, asked):
        """For rows and costs of which just one spread costs least."""
        self.assertEqual(self.assert_corner(rows, costs), [Fraction(*part) for part in asked])
        self.assertEqual(corner(rows, costs)[1], asked)


class Corner(CornerCase):
    def test_no_rows(self):
        self.assert_spread([], (4, -3, 1), ((0, 1), (1, 1), (0, 1)))
        self.assert_corner([], (0, 0))
        self.assertEqual(corner([], ())[1], ())
        self.assert_corner([], ())

    def test_no_choices(self):
        for leasts in ([0], [-1], [0, -5, -GREAT], []):
            self.assertEqual(self.assert_corner([((), least) for least in leasts], ()), [])
        for leasts in ([1], [GREAT], [0, 1], [-3, 7, 0]):
            self.assertIsNone(self.assert_corner([((), least) for least in leasts], ()))

    def test_whole_numbers(self):
        self.assert_spread([((1, 1), 1)], (2, 1), ((0, 1), (1, 1)))
        self.assert_spread([((-1, -1), -1)], (-2, -1), ((1, 1), (0, 1)))
        self.assert_spread([((1, 1, 1), 2)], (5, -1, 4), ((0, 1), (1, 1), (1, 1)))

    def test_fractions(self):
        self.assert_spread([((2,), 1)], (1,), ((1, 2),))
        self.assert_spread([((-3,), -2)], (-1,), ((2, 3),))
        self.assert_spread([((6, 4), 5)], (3, 1), ((1, 6), (1, 1)))
        self.assert_spread([((1, 1, 0), 1), ((0, 1, 1), 1), ((1, 0, 1), 1)], (1, 1, 1), ((1, 2),) * 3)
        self.assert_spread([((3, 1), 2), ((1, 3), 2)], (1, 1), ((1, 2), (1, 2)))
        self.assert_spread([((4, 1), 2), ((1, 3), 1)], (1, 1), ((5, 11), (2, 11)))

    def test_no_spread(self):
        for rows in (
            [((1, 1), 3)], [((-1, 0), 1)], [((1, 0), 1), ((-1, 0), 0)], [((2, 0), 1), ((-3, 0), -1)],
            [((1, 1), 1), ((-2, -2), -1)], [((0, 0), 1)], [((0, 0), 0), ((1, -1), 1), ((-1, 1), 0)],
        ):
            for costs in ((0, 0), (1, 1), (-1, 2), (GREAT, -GREAT)):
                self.assertIsNone(self.assert_corner(rows, costs))

    def test_just_one_spread(self):
        rows = [((2, 0), 1), ((-2, 0), -1), ((0, 3), 2), ((0, -3), -2)]
        for costs in ((0, 0), (1, 1), (-1, 2), (GREAT, -GREAT)):
            self.assert_spread(rows, costs, ((1, 2), (2, 3)))

    def test_ends_of_choices(self):
        self.assert_spread([((1,), 1)], (5,), ((1, 1),))
        self.assert_spread([((-1,), 0)], (-5,), ((0, 1),))
        self.assertIsNone(self.assert_corner([((2,), 3)], (5,)))
        self.assertIsNone(self.assert_corner([((-2,), 1)], (5,)))
        self.assert_spread([((1, -1), 1)], (1, -1), ((1, 1), (0, 1)))

    def test_rows_alike_and_sums_of_others(self):
        one = ((2, 1, 0), 1)
        other = ((0, 1, 2), 1)
        both = ((2, 2, 2), 2)
        for rows in ([one] * 5, [one, other, both], [both, both, one, other, one], [one, other, ((4, 4, 4), 4), both]):
            for costs in ((1, 1, 1), (1, 3, 1), (0, 0, 0), (-1, 2, 2)):
                self.assertIsNotNone(self.assert_corner(rows, costs))
        self.assertIsNone(self.assert_corner([one, other, ((-2, -2, -2), -1)], (1, 1, 1)))

    def test_rows_of_noughts(self):
        self.assert_spread([((0,), 0), ((2,), 1), ((0,), -3)], (1,), ((1, 2),))
        self.assertIsNone(self.assert_corner([((0,), 0), ((2,), 1), ((0,), 1)], (1,)))

    def test_costs_of_nought_and_below(self):
        rows = [((1, 1, 0), 1), ((0, 1, 1), 1), ((1, 0, 1), 1), ((-1, -1, -1), -2)]
        for costs in itertools.product((-1, 0, 2), repeat=3):
            self.assertIsNotNone(self.assert_corner(rows, costs))

    def test_eighteen_figures(self):
        self.assert_spread([((GREAT,), 1)], (GREAT,), ((1, GREAT),))
        self.assert_spread([((GREAT, GREAT - 1), GREAT)], (1, 2), ((1, 1), (0, 1)))
        self.assert_spread([((-GREAT,), 1 - GREAT)], (-1,), ((GREAT - 1, GREAT),))
        self.assertIsNone(self.assert_corner([((GREAT,), GREAT), ((-GREAT,), 1 - GREAT)], (1,)))
        chance = random.Random(41)
        for _ in range(60):
            count = chance.randint(1, 6)
            worths = [Fraction(chance.randint(0, 7), 7) for _ in range(count)]
            rows = rows_round(chance, worths, chance.randint(1, 9), GREAT)
            self.assertIsNotNone(self.assert_corner(rows, tuple(chance.randint(-GREAT, GREAT) for _ in range(count))))

    def test_many_small_problems(self):
        chance = random.Random(42)
        seen = {}
        for _ in range(1500):
            count = chance.randint(0, 6)
            size = chance.choice((1, 2, 9))
            rows = some_rows(chance, count, chance.randint(0, 7), size)
            if chance.randint(0, 1):
                rows = rows_round(chance, [Fraction(chance.randint(0, 4), 4) for _ in range(count)], 6, size)
            costs = tuple(chance.choice((0, 1)) * chance.randint(-3, 3) for _ in range(count))
            worths = self.assert_corner(rows, costs)
            kind = worths is not None and (1 if all(worth in (0, 1) for worth in worths) else 2)
            seen[kind] = seen.get(kind, 0) + 1
        self.assertEqual(len(seen), 3)
        self.assertGreater(min(seen.values()), 200, seen)

    def test_no_point_costs_less(self):
        chance = random.Random(43)
        for _ in range(200):
            count = chance.randint(1, 4)
            problem = (some_rows(chance, count, 4, 3), tuple(chance.randint(-3, 3) for _ in range(count)))
            multipliers, spread = corner(*problem)
            for point in itertools.product((0, 1), repeat=count):
                if keeps(problem, point):
                    self.assertIsNotNone(spread)
                    self.assertGreaterEqual(multipliers[0] * cost_of(problem, point), bound(*problem, multipliers))


class SlowRule(CornerCase):
    """Corners by the rule that is taken only where the other one gains nothing for long."""

    def setUp(self):
        self.patience = nonebetter.tableau.PATIENCE

    def tearDown(self):
        nonebetter.tableau.PATIENCE = self.patience

    def test_it_leads_to_the_same_cost(self):
        chance = random.Random(44)
        for _ in range(400):
            count = chance.randint(1, 7)
            size = chance.choice((1, 2, 9))
            rows = some_rows(chance, count, 5, size)
            if chance.randint(0, 2):
                rows = rows_round(chance, [Fraction(chance.randint(0, 4), 4) for _ in range(count)], 8, size)
            costs = tuple(chance.choice((0, 1)) * chance.randint(-3, 3) for _ in range(count))
            found = []
            for patience in (self.patience, 0, 1):
                nonebetter.tableau.PATIENCE = patience
                worths = self.assert_corner(rows, costs)
                found.append(None if worths is None else summed(costs, worths))
            self.assertEqual(found, found[:1] * 3)


class GoneOn(unittest.TestCase):
    """Corners to which the way goes on from another corner, with more holds and more rows."""

    def held_rows(self, count, holds):
        return [
            (tuple((1 if worth == 1 else -1) if other == choice else 0 for other in range(count)), worth)
            for choice, worth in holds
        ]

    def assert_settled(self, table, rows, costs, holds, limit):
        """That the table comes to what is told of the corner of the rows and the holds; tells whether it does."""
        scale, times, worths = settle(table, limit, None)
        least = corner(rows + self.held_rows(len(costs), holds), costs)[1]
        self.assertEqual(len(times), len(rows))
        self.assertTrue(all(many >= 0 for many in times))
        numbers = tuple(
            summed([row[0][choice] for row in rows], times) - scale * cost for choice, cost in enumerate(costs)
        )
        lowest = summed([row[1] for row in rows], times) - most_of((numbers, 0), holds)
        if worths is None:
            # The sum of the rows breaks, with that of points that cost no more than the limit where there is a scale.
            self.assertGreater(lowest, scale * limit if scale > 0 else 0)
            return False
        cost = summed(costs, [Fraction(*part) for part in least])
        spread = [Fraction(worth, scale) for worth in worths]
        self.assertTrue(all(0 <= part <= 1 for part in spread))
        self.assertTrue(all(spread[choice] == worth for choice, worth in holds))
        self.assertTrue(all(summed(row[0], spread) >= row[1] for row in rows))
        self.assertEqual(summed(costs, spread), cost)
        self.assertEqual(lowest, scale * cost)
        return True

    def test_more_holds_and_more_rows(self):
        chance = random.Random(50)
        seen = {True: 0, False: 0}
        for _ in range(400):
            count = chance.randint(1, 7)
            worths = [Fraction(chance.randint(0, 4), 4) for _ in range(count)]
            size = chance.choice((1, 2, 9))
            rows = rows_round(chance, worths, chance.randint(0, 6), size)
            costs = tuple(chance.randint(-4, 4) for _ in range(count))
            holds = []
            table = Tableau(rows, costs)
            before = table
            for choice in chance.sample(range(count), count):
                found = self.assert_settled(table, rows, costs, holds, chance.choice((None, None, 0, 9)))
                seen[found] += 1
                if not found:
                    break
                before = table
                table = table.twin()
                if chance.randint(0, 2) == 0:
                    rows = rows + rows_round(chance, worths, 1, size)
                    table.add_row(rows[-1])
                    before.add_row(rows[-1])
                # Held where it lies, or at the other end.
                holds.append((choice, chance.randint(0, 1)))
                table.hold(*holds[-1])
            # The table that was gone on from is as it was.
            self.assert_settled(before, rows, costs, holds[:-1], None)
        self.assertGreater(min(seen.values()), 100)

    def test_all_held(self):
        chance = random.Random(51)
        for _ in range(200):
            count = chance.randint(0, 4)
            rows = some_rows(chance, count, 3, 3)
            costs = tuple(chance.randint(-4, 4) for _ in range(count))
            for point in itertools.product((0, 1), repeat=count):
                table = Tableau(rows, costs)
                for choice, worth in enumerate(point):
                    table.hold(choice, worth)
                self.assertEqual(self.assert_settled(table, rows, costs, list(enumerate(point)), None),
                                 keeps((rows, costs), point))

    def test_where_patience_is_over(self):
        rows = [((1, 1, 0), 1), ((0, 1, 1), 1), ((1, 0, 1), 1)]
        self.assertIsNone(settle(Tableau(rows, (1, 1, 1)), None, -1)[2])
        self.assertIsNone(settle(Tableau(rows, (1, 1, 1)), None, 0)[2])
        self.assertIsNotNone(settle(Tableau(rows, (1, 1, 1)), None, 10 ** 6)[2])
        # A corner without a step asks for none, and a limit that is just kept does not end the way.
        self.assertIsNotNone(settle(Tableau(rows, (-1, -1, -1)), None, -1)[2])
        ones = [((1, 0), 1), ((0, 1), 1)]
        self.assertIsNotNone(settle(Tableau(ones, (4, 4)), 8, None)[2])
        self.assertIsNotNone(settle(Tableau(ones, (4, 4)), 4, None)[2])
        self.assertIsNone(settle(Tableau(ones, (4, 4)), 3, None)[2])


class Sizes(CornerCase):
    def test_sixty_choices_that_are_to_be_matched(self):
        chance = random.Random(45)
        rows = []
        for part in range(6):
            numbers = tuple(1 if choice // 10 == part else 0 for choice in range(60))
            rows += [(numbers, 1), (tuple(-number for number in numbers), -1)]
        rows += [(tuple(-1 if choice % 10 == part else 0 for choice in range(60)), -1) for part in range(10)]
        for costs in (tuple(chance.randint(0, 9) for _ in range(60)), (0,) * 60, (1,) * 60, (-GREAT,) * 60):
            self.assertIsNotNone(self.assert_corner(rows, costs))
        self.assertIsNone(self.assert_corner(rows + [((1,) * 60, 7)], (1,) * 60))

    def test_sixty_choices_in_rings(self):
        ring = [(tuple(1 if (choice + step) % 60 < 31 else 0 for choice in range(60)), 1) for step in range(60)]
        self.assert_spread(ring, (1,) * 60, ((1, 31),) * 60)
        pairs = [
            (tuple(-1 if choice in (one, other) else 0 for choice in range(60)), -1)
            for one, other in itertools.combinations(range(28), 2)
        ]
        worths = self.assert_corner(pairs, (-1,) * 60)
        self.assertEqual(worths, [Fraction(1, 2)] * 28 + [1] * 32)

    def test_sixty_choices_and_four_hundred_rows(self):
        chance = random.Random(46)
        for size, costs in ((1, (0,) * 60), (9, (1,) * 60), (9, tuple(range(-20, 40)))):
            worths = [chance.randint(0, 1) for _ in range(60)]
            self.assertIsNotNone(self.assert_corner(rows_round(chance, worths, 400, size), costs))
        self.assertIsNone(self.assert_corner(some_rows(chance, 60, 400, 9), (1,) * 60))

    def test_sixty_choices_of_eighteen_figures(self):
        chance = random.Random(47)
        costs = tuple(chance.randint(-GREAT, GREAT) for _ in range(60))
        worths = [Fraction(chance.randint(0, 5), 5) for _ in range(60)]
        self.assertIsNotNone(self.assert_corner(rows_round(chance, worths, 30, GREAT), costs))
        rows = rows_round(chance, [chance.randint(0, 1) for _ in range(60)], 400, GREAT)
        self.assertIsNotNone(self.assert_corner(rows, costs))


class BoundLines(CornerCase):
    def assert_shut_out(self, problem, best, multipliers, holds):
        ahead = copy.deepcopy((problem, best, multipliers, holds))
        paper = bound_lines(problem, best, multipliers, holds)
        self.assertEqual((problem, best, multipliers, holds), ahead)
        self.assertIs(type(paper), list)
        told = rows_told(problem, best, paper)
        self.assertEqual(len(told), len(paper), (problem, best, multipliers, holds))
        self.assertEqual(told[-1], shut_out(len(problem[1]), holds), (problem, best, multipliers, holds))
        return paper

    def assert_none(self, problem, best, multipliers, holds):
        ahead = copy.deepcopy((problem, best, multipliers, holds))
        self.assertIsNone(bound_lines(problem, best, multipliers, holds))
        self.assertEqual((problem, best, multipliers, holds), ahead)

    # The rows' sum is (3, 3) and asks for 4; with ("better",) of best 10 once it is (-2, -4) and asks for -5.
    PROBLEM = ([((1, 2), 2), ((2, 1), 2)], (5, 7))

    def test_where_the_sum_breaks_and_where_it_just_does_not(self):
        rows = (0, (1, 1))
        self.assert_none(self.PROBLEM, None, rows, [])
        self.assert_none(self.PROBLEM, None, rows, [(0, 1), (1, 1)])
        self.assert_shut_out(self.PROBLEM, None, rows, [(0, 0)])
        self.assert_shut_out(self.PROBLEM, None, rows, [(1, 0), (0, 1)])
        just = ([((1, 2), 1), ((2, 1), 2)], (5, 7))
        self.assert_none(just, None, rows, [(0, 0)])
        self.assert_none(just, None, rows, [(1, 0)])
        self.assert_shut_out(just, None, rows, [(0, 0), (1, 0)])

    def test_best_a_number_and_none(self):
        once = (1, (1, 1))
        self.assert_none(self.PROBLEM, 10, once, [(0, 1)])
        self.assert_none(self.PROBLEM, 10, once, [])
        self.assert_shut_out(self.PROBLEM, 10, once, [(0, 1), (1, 1)])
        self.assert_none(self.PROBLEM, 7, once, [(0, 1)])
        self.assert_shut_out(self.PROBLEM, 6, once, [(0, 1)])
        self.assert_none(self.PROBLEM, 5, once, [])
        self.assert_shut_out(self.PROBLEM, 4, once, [])
        self.assert_none(self.PROBLEM, None, once, [])
        # Without best the scale does not count.
        self.assert_none(self.PROBLEM, None, (GREAT, (1, 1)), [(0, 1), (1, 1)])
        self.assert_shut_out(self.PROBLEM, None, (GREAT, (1, 1)), [(0, 0)])
        self.assert_none(([], (5, 7)), None, (1, ()), [(0, 1)])
        self.assert_shut_out(([], (5, 7)), 0, (1, ()), [])

    def test_the_scale_counts_so_many_times(self):
        # Twice ("better",) and the rows three times: (9 - 10, 9 - 14) and 12 + 2 - 2 * best.
        self.assert_none(self.PROBLEM, 7, (2, (3, 3)), [])
        self.assert_shut_out(self.PROBLEM, 6, (2, (3, 3)), [])
        self.assert_none(self.PROBLEM, 7, (2, (3, 3)), [(0, 0)])
        self.assert_shut_out(self.PROBLEM, 7, (2, (3, 3)), [(0, 1)])

    def test_scale_nought_with_best(self):
        for best in (None, -GREAT, 0, 4, GREAT):
            self.assert_none(self.PROBLEM, best, (0, (1, 1)), [])
            self.assert_shut_out(self.PROBLEM, best, (0, (1, 1)), [(0, 0)])

    def test_all_times_nought(self):
        for best in (None, 5, -5):
            for holds in ([], [(0, 0)], [(1, 1), (0, 0)]):
                self.assert_none(self.PROBLEM, best, (0, (0, 0)), holds)
        self.assert_none(self.PROBLEM, None, (1, (0, 0)), [(0, 0)])
        self.assert_none(self.PROBLEM, 1, (1, (0, 0)), [(0, 0)])
        self.assert_shut_out(self.PROBLEM, 0, (1, (0, 0)), [(0, 0)])
        self.assert_shut_out(self.PROBLEM, 5, (1, (0, 0)), [(0, 1)])
        self.assert_none(self.PROBLEM, 6, (1, (0, 0)), [(0, 1)])
        self.assert_none(([], ()), None, (0, ()), [])
        self.assert_none(([], ()), 1, (1, ()), [])
        self.assert_shut_out(([], ()), 0, (1, ()), [])

    def test_some_times_nought(self):
        self.assert_shut_out(self.PROBLEM, None, (0, (0, 1)), [(0, 0)])
        self.assert_shut_out(self.PROBLEM, None, (0, (1, 0)), [(1, 0)])
        self.assert_none(self.PROBLEM, None, (0, (1, 0)), [(0, 0)])

    def test_no_choices(self):
        self.assert_shut_out(([((), 1), ((), -1)], ()), None, (0, (2, 1)), [])
        self.assert_none(([((), 1), ((), -1)], ()), None, (0, (1, 1)), [])

    def test_multipliers_of_corner(self):
        # The least cost of a spread that keeps the rows is a bound of that of points.
        chance = random.Random(48)
        seen = {}
        for _ in range(600):
            count = chance.randint(0, 5)
            problem = (some_rows(chance, count, 4, 4), tuple(chance.randint(-4, 6) for _ in range(count)))
            multipliers, spread = corner(*problem)
            seen[spread is None] = True
            if spread is None:
                paper = self.assert_shut_out(problem, None, multipliers, [])
                self.assertIsNone(judged(problem, None, paper))
            else:
                cost = summed(problem[1], [Fraction(*part) for part in spread])
                best = -(-cost // 1)
                self.assertIsNone(judged(problem, best, self.assert_shut_out(problem, best, multipliers, [])))
                self.assert_none(problem, best + 1, multipliers, [])
                self.assert_none(problem, None, multipliers, [])
        self.assertEqual(len(seen), 2)

    def test_as_the_sum_breaks(self):
        chance = random.Random(49)
        seen = {}
        for _ in range(2000):
            count = chance.randint(0, 4)
            problem = (some_rows(chance, count, chance.randint(0, 4), 3),
                       tuple(chance.randint(-3, 3) for _ in range(count)))
            best = chance.choice((None, chance.randint(-4, 4)))
            multipliers = (chance.randint(0, 2), tuple(chance.randint(0, 2) for _ in problem[0]))
            holds = [(choice, chance.randint(0, 1)) for choice in chance.sample(range(count), chance.randint(0, count))]
            rows = [row for row, many in zip(problem[0], multipliers[1]) for _ in range(many)]
            if best is not None:
                rows += [(tuple(-cost for cost in problem[1]), 1 - best)] * multipliers[0]
            total = (tuple(sum(row[0][choice] for row in rows) for choice in range(count)), sum(row[1] for row in rows))
            breaks = most_of(total, holds) < total[1]
            seen[breaks, best is None] = True
            if breaks:
                self.assert_shut_out(problem, best, multipliers, holds)
            else:
                self.assert_none(problem, best, multipliers, holds)
        self.assertEqual(len(seen), 4)

    def test_sizes(self):
        rows = [((GREAT,) * 60, 60 * GREAT)] * 400
        multipliers = (GREAT, (GREAT,) * 400)
        self.assert_shut_out((rows, (GREAT,) * 60), GREAT, multipliers, [(choice, 0) for choice in range(60)])
        self.assert_shut_out((rows, (GREAT,) * 60), None, multipliers, [(59, 0)])
        self.assert_none((rows, (GREAT,) * 60), None, multipliers, [(59, 1)])


class Told(unittest.TestCase):
    PROBLEM = ([((1, 2), 2), ((2, 1), 2)], (5, 7))
    MULTIPLIERS = (1, (2, 3))
    HOLDS = [(0, 0), (1, 1)]

    def lists_in(self, paper):
        return [part for line in paper for part in line if isinstance(part, list)]

    def test_each_list_is_a_new_one(self):
        holds = list(self.HOLDS)
        paper = bound_lines(self.PROBLEM, 9, self.MULTIPLIERS, holds)
        lists = self.lists_in(paper) + [paper, holds]
        self.assertEqual(len(lists), 4)
        self.assertEqual(len({id(part) for part in lists}), len(lists))

    def test_changing_what_was_told_changes_nothing_told_later(self):
        paper = bound_lines(self.PROBLEM, 9, self.MULTIPLIERS, self.HOLDS)
        asked = copy.deepcopy(paper)
        for part in self.lists_in(paper):
            part.clear()
        paper.clear()
        self.assertEqual(bound_lines(self.PROBLEM, 9, self.MULTIPLIERS, self.HOLDS), asked)

    def test_changing_what_was_handed_in_behind(self):
        problem = copy.deepcopy(self.PROBLEM)
        holds = list(self.HOLDS)
        paper = bound_lines(problem, 9, self.MULTIPLIERS, holds)
        told = corner(problem[0], problem[1])
        asked = copy.deepcopy((paper, told))
        problem[0].clear()
        holds.clear()
        self.assertEqual((paper, told), asked)
        self.assertEqual(corner(problem[0], problem[1])[1], ((0, 1), (0, 1)))

    def test_the_same_is_told_again(self):
        first = corner(*self.PROBLEM)
        corner([((1, 1, 1), 2)], (3, 4, -5))
        self.assertEqual(corner(*self.PROBLEM), first)


if __name__ == "__main__":
    unittest.main()
