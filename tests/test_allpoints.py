"""All points that keep a problem, and those of the least cost."""

import copy
import itertools
import random
import unittest

from nonebetter.allpoints import all_points, least_points
from nonebetter.knots import search
from nonebetter.rows import cost_of, keeps

GREAT = 10 ** 18 - 1


def every_point(count):
    return list(itertools.product((0, 1), repeat=count))


class PointCase(unittest.TestCase):
    def assert_points(self, problem, asked):
        """The points told are these; the least ones are told with their cost."""
        ahead = copy.deepcopy(problem)
        told = all_points(problem)
        self.assertEqual(told, asked, problem)
        self.assert_list(told, len(problem[1]))
        least = least_points(problem)
        self.assertEqual([type(least), len(least)], [tuple, 2])
        costs = [cost_of(problem, point) for point in asked]
        cost = min(costs, default=None)
        self.assertEqual(least, (cost, [point for point, here in zip(asked, costs) if here == cost]))
        self.assertIs(type(least[0]), type(None) if not asked else int)
        self.assert_list(least[1], len(problem[1]))
        self.assertEqual(problem, ahead)

    def assert_list(self, points, count):
        self.assertIs(type(points), list)
        for point in points:
            self.assertEqual([type(point), len(point)], [tuple, count])
            self.assertTrue(all(type(worth) is int for worth in point))

    def assert_gone_through(self, problem):
        self.assert_points(problem, [point for point in every_point(len(problem[1])) if keeps(problem, point)])


class Edges(PointCase):
    def test_no_choices(self):
        for leasts in ([], [0], [-1], [0, -5, -GREAT]):
            self.assert_points(([((), least) for least in leasts], ()), [()])
            self.assertEqual(least_points(([((), least) for least in leasts], ())), (0, [()]))
        for leasts in ([1], [0, 1], [1, 0], [-3, 7, 0], [GREAT]):
            self.assert_points(([((), least) for least in leasts], ()), [])
            self.assertEqual(least_points(([((), least) for least in leasts], ())), (None, []))

    def test_no_rows(self):
        self.assert_points(([], (3,)), [(0,), (1,)])
        self.assert_points(([], (1, 2)), [(0, 0), (0, 1), (1, 0), (1, 1)])
        self.assert_points(([], (0, 0, 0)), every_point(3))
        self.assertEqual(least_points(([], (3, 4))), (0, [(0, 0)]))
        self.assertEqual(least_points(([], (3, -4))), (-4, [(0, 1)]))
        self.assertEqual(least_points(([], (0, -4, 0)))[1], [(0, 1, 0), (0, 1, 1), (1, 1, 0), (1, 1, 1)])

    def test_rows_that_none_keeps(self):
        for row in (((0, 0), 1), ((1, 1), 3), ((-1, -1), 1), ((GREAT, GREAT), 2 * GREAT + 1)):
            self.assert_points(([row], (1, 1)), [])
            self.assertEqual(least_points(([row], (1, 1))), (None, []))
        self.assert_points(([((1, 0), 1), ((-1, 0), 0)], (1, 1)), [])
        self.assert_points(([((2, 2), 1), ((-2, -2), -1)], (0, 0)), [])

    def test_just_kept(self):
        self.assert_points(([((2, 3), 3)], (1, 1)), [(0, 1), (1, 1)])
        self.assert_points(([((2, 3), 2)], (1, 1)), [(0, 1), (1, 0), (1, 1)])
        self.assert_points(([((2, 3), 5)], (1, 1)), [(1, 1)])
        self.assert_points(([((-2, -3), -3)], (1, 1)), [(0, 0), (0, 1), (1, 0)])
        self.assert_points(([((-2, 3), 1)], (1, 1)), [(0, 1), (1, 1)])
        self.assert_points(([((-2, 3), -2)], (1, 1)), every_point(2))
        self.assert_points(([((0, 0), 0)], (1, 1)), every_point(2))

    def test_costs_of_nought_and_below(self):
        rows = [((1, 1, 1), 1), ((-1, -1, -1), -2)]
        some = [point for point in every_point(3) if 0 < sum(point) < 3]
        self.assertEqual(least_points((rows, (0, 0, 0))), (0, some))
        self.assertEqual(least_points((rows, (-1, -1, -1))), (-2, [(0, 1, 1), (1, 0, 1), (1, 1, 0)]))
        self.assertEqual(least_points((rows, (2, 2, 2))), (2, [(0, 0, 1), (0, 1, 0), (1, 0, 0)]))
        self.assertEqual(least_points((rows, (5, 0, -1))), (-1, [(0, 0, 1), (0, 1, 1)]))
        self.assertEqual(least_points((rows, (1, -1, 0))), (-1, [(0, 1, 0), (0, 1, 1)]))

    def test_sorted(self):
        problem = ([((3, 2, 1), 3)], (1, 1, 1))
        self.assertEqual(all_points(problem), [(0, 1, 1), (1, 0, 0), (1, 0, 1), (1, 1, 0), (1, 1, 1)])
        self.assertEqual(least_points((problem[0], (2, 1, 1))), (2, [(0, 1, 1), (1, 0, 0)]))

    def test_a_row_twice_and_one_that_all_keep(self):
        self.assert_points(([((1, 1), 2)] * 3 + [((5, 5), -1)], (1, 1)), [(1, 1)])


class GoneThrough(PointCase):
    def test_one_choice(self):
        for number, least, cost in itertools.product((-2, -1, 0, 1, 2), (-2, -1, 0, 1, 2), (-1, 0, 1)):
            self.assert_gone_through(([((number,), least)], (cost,)))

    def test_small_problems(self):
        chance = random.Random(120)
        seen = {}
        for _ in range(1000):
            count = chance.randint(0, 6)
            size = chance.choice((1, 3, 9, GREAT))
            rows = [
                (tuple(chance.randint(-size, size) for _ in range(count)), chance.randint(-size, size // 2))
                for _ in range(chance.randint(0, 5))
            ]
            problem = (rows, tuple(chance.randint(-2, 2) for _ in range(count)))
            self.assert_gone_through(problem)
            many = min(3, len(least_points(problem)[1]))
            seen[many] = seen.get(many, 0) + 1
        self.assertEqual(sorted(seen), [0, 1, 2, 3])
        self.assertGreater(min(seen.values()), 30)

    def test_twelve_choices(self):
        chance = random.Random(121)
        for many in (0, 1, 2, 5):
            rows = [(tuple(chance.randint(-9, 9) for _ in range(12)), chance.randint(-9, 9)) for _ in range(many)]
            self.assert_gone_through((rows, tuple(chance.randint(-3, 3) for _ in range(12))))
        self.assertEqual(len(all_points(([], (1,) * 12))), 4096)
        self.assertEqual(least_points(([], (0,) * 12)), (0, every_point(12)))

    def test_four_hundred_rows(self):
        chance = random.Random(122)
        rows = [(tuple(chance.randint(-GREAT, GREAT) for _ in range(12)), -5 * GREAT) for _ in range(400)]
        problem = (rows, (1,) * 12)
        asked = [point for point in every_point(12) if keeps(problem, point)]
        self.assertGreater(len(asked), 10)
        self.assertEqual(all_points(problem), asked)
        # Rows that all points keep.
        self.assertEqual(len(all_points(([((1,) * 12, -number) for number in range(400)], (1,) * 12))), 4096)

    def test_the_search_finds_the_same_cost(self):
        chance = random.Random(123)
        for _ in range(100):
            rows = [(tuple(chance.randint(-3, 3) for _ in range(7)), chance.randint(-3, 3)) for _ in range(6)]
            problem = (rows, tuple(chance.randint(-3, 6) for _ in range(7)))
            point, cost, paper = search(problem, ["corners", "learnt"])
            self.assertEqual(least_points(problem)[0], cost)
            self.assertEqual(point in least_points(problem)[1], cost is not None)


class Told(PointCase):
    def test_what_was_told_is_the_askers_own(self):
        for problem in (([((1, 1), 1)], (1, 1)), ([], ()), ([((0,), 1)], (1,))):
            points = all_points(problem)
            asked = list(points)
            points.append("mine")
            self.assertEqual(all_points(problem), asked)
            least = least_points(problem)
            asked = copy.deepcopy(least)
            least[1].append("mine")
            self.assertEqual(least_points(problem), asked)

    def test_changing_what_was_handed_in_behind(self):
        problem = ([((1, 1), 1)], (1, 1))
        told = (all_points(problem), least_points(problem))
        asked = copy.deepcopy(told)
        problem[0].append(((1, 1), 3))
        self.assertEqual(told, asked)
        self.assert_points(problem, [])


if __name__ == "__main__":
    unittest.main()
