"""The search, with all sets of deeds."""

import copy
import itertools
import random
import unittest

import nonebetter.branching
import nonebetter.knots
from nonebetter.judge import judged, rows_told
from nonebetter.knots import search
from nonebetter.rows import cost_of, keeps

GREAT = 10 ** 18 - 1
WORDS = ("corners", "shares", "likes", "learnt")
SETS = [list(some) for many in range(5) for some in itertools.combinations(WORDS, many)]


def row_of(count, choices, number, least):
    """The row with a number at these choices, and 0 else."""
    return (tuple(number if choice in choices else 0 for choice in range(count)), least)


def less(row):
    """What says with a row that its numbers come to just its least."""
    return (tuple(-number for number in row[0]), -row[1])


def places_for(things, places, cost=1):
    """Each thing is put at a place, and no two at one."""
    count = things * places
    rows = [row_of(count, range(thing * places, (thing + 1) * places), 1, 1) for thing in range(things)]
    rows += [row_of(count, range(place, count, places), -1, -1) for place in range(places)]
    return (rows, (cost,) * count)


def ring(count):
    """No two neighbours in a ring are taken, as many as may be are."""
    return ([row_of(count, (here, (here + 1) % count), -1, -1) for here in range(count)], (-1,) * count)


def some_rows(chance, count, many, size):
    return [
        (tuple(chance.choice((0, 1)) * chance.randint(-size, size) for _ in range(count)), chance.randint(-size, size))
        for _ in range(many)
    ]


def any_problem(chance, count):
    size = chance.choice((1, 2, 5, 9))
    rows = some_rows(chance, count, chance.randint(0, 12), size)
    if chance.randint(0, 1):
        point = [chance.randint(0, 1) for _ in range(count)]
        rows = [(row[0], sum(map(int.__mul__, row[0], point)) - chance.randint(0, 1)) for row in rows]
    return (rows, tuple(chance.choice((0, 1, 1)) * chance.randint(-5, 9) for _ in range(count)))


def covers(chance, count):
    """Some of some choices are to be taken."""
    rows = [row_of(count, chance.sample(range(count), min(count, 3)), 1, 1) for _ in range(count)]
    return (rows, tuple(chance.randint(1, 9) for _ in range(count)))


def packs(chance, count):
    """Not two of some choices may be taken."""
    rows = [row_of(count, chance.sample(range(count), min(count, 4)), -1, -1) for _ in range(count)]
    return (rows, tuple(-chance.randint(1, 9) for _ in range(count)))


def loads(chance, count):
    """Some weights are to be lifted."""
    rows = []
    for _ in range(chance.randint(1, 3)):
        numbers = tuple(chance.randint(1, 30) for _ in range(count))
        rows.append((numbers, sum(numbers) // 2))
    return (rows, tuple(chance.randint(1, 30) * chance.choice((1, 4)) for _ in range(count)))


def halves(chance, count):
    """Some weights are to be parted just so."""
    numbers = tuple(chance.choice((2, 4, 6, 3)) for _ in range(count))
    row = (numbers, sum(numbers) // 2)
    return ([row, less(row)], tuple(chance.choice((1, 2)) for _ in range(count)))


def matches(chance, count):
    """Each of three things is put at one place of some; as many choices as fit."""
    places = count // 3
    rows = places_for(3, places)[0]
    return (rows + [less(row) for row in rows[:3]], tuple(chance.randint(0, 20) for _ in range(3 * places)))


def alike(chance, count):
    """Choices of which many are alike."""
    kinds = [chance.randint(0, 2) for _ in range(count)]
    weights = [chance.randint(1, 4) for _ in range(3)]
    numbers = tuple(weights[kind] for kind in kinds)
    costs = [chance.randint(-3, 3) for _ in range(3)]
    row = (numbers, chance.randint(0, sum(numbers) + 1))
    return ([row, less(row)][:chance.randint(1, 2)], tuple(costs[kind] for kind in kinds))


FAMILIES = (any_problem, covers, packs, loads, halves, matches, alike)


def beside(one, other):
    """Two problems put beside each other."""
    first = [(row[0] + (0,) * len(other[1]), row[1]) for row in one[0]]
    return (first + [((0,) * len(one[1]) + row[0], row[1]) for row in other[0]], one[1] + other[1])


def least_cost(problem):
    """By going through all points."""
    points = itertools.product((0, 1), repeat=len(problem[1]))
    return min((cost_of(problem, point) for point in points if keeps(problem, point)), default=None)


class SearchCase(unittest.TestCase):
    def assert_search(self, problem, deeds):
        """All that is told of a search but that the cost is the least; for this the judge's word is taken."""
        ahead = copy.deepcopy((problem, deeds))
        told = search(problem, deeds)
        self.assertEqual((problem, deeds), ahead)
        self.assertEqual([type(told), len(told), type(told[2])], [tuple, 3, list])
        point, cost, paper = told
        if point is None:
            self.assertIsNone(cost)
        else:
            self.assertEqual([type(point), len(point), type(cost)], [tuple, len(problem[1]), int])
            for worth in point:
                self.assertIs(type(worth), int)
                self.assertIn(worth, (0, 1))
            self.assertTrue(keeps(problem, point), (problem, deeds))
            self.assertEqual(cost_of(problem, point), cost)
        self.assertIsNone(judged(problem, cost, paper), (problem, deeds))
        self.assert_deeds(paper, deeds)
        return told

    def assert_deeds(self, paper, deeds):
        """Deeds that are not among these are not used."""
        words = {line[0] for line in paper}
        if "likes" not in deeds:
            self.assertNotIn("like", words)
        if "shares" not in deeds:
            self.assertNotIn("share", words)
            if "corners" not in deeds:
                self.assertNotIn("sum", words)

    def assert_cost(self, problem, asked, sets=SETS):
        for deeds in sets:
            self.assertEqual(self.assert_search(problem, deeds)[1], asked, (problem, deeds))

    def assert_least(self, problem, sets=SETS):
        asked = least_cost(problem)
        self.assert_cost(problem, asked, sets)
        return asked


class Edges(SearchCase):
    def test_no_choices(self):
        for leasts in ([], [0], [-1], [0, -5, -GREAT, 0]):
            self.assert_cost(([((), least) for least in leasts], ()), 0)
            self.assertEqual(search(([((), least) for least in leasts], ()), [])[0], ())
        for leasts in ([1], [0, 1], [-3, 7, 0], [GREAT]):
            self.assert_cost(([((), least) for least in leasts], ()), None)

    def test_no_rows(self):
        self.assert_cost(([], (3,)), 0)
        self.assert_cost(([], (-3,)), -3)
        self.assert_cost(([], (0, 0, 0)), 0)
        self.assert_cost(([], (4, -3, 0, 1, -7)), -10)
        self.assert_cost(([], tuple(range(-30, 30))), -465)
        self.assert_cost(([], (-GREAT,) * 60), -60 * GREAT)

    def test_one_choice(self):
        for number, least, cost in itertools.product((-2, -1, 0, 1, 2), (-2, -1, 0, 1, 2), (-1, 0, 1)):
            self.assert_least(([((number,), least)], (cost,)))

    def test_costs_of_nought_and_below(self):
        rows = [((1, 1, 0), 1), ((0, 1, 1), 1), ((1, 0, 1), 1), ((-1, -1, -1), -2)]
        for costs in itertools.product((-1, 0, 2), repeat=3):
            self.assert_least((rows, costs), [[], list(WORDS)])
        self.assert_cost((rows, (0, 0, 0)), 0)

    def test_no_point_but_spreads(self):
        self.assert_cost(([((2, 2, 2), 3), ((-2, -2, -2), -3)], (1, 1, 1)), None)
        self.assert_cost(([((3, -3), 1), ((-3, 3), -2)], (1, 1)), None)

    def test_no_spread(self):
        self.assert_cost(([((1, 1), 3)], (1, 1)), None)
        self.assert_cost(([((0, 0), 1)], (1, 1)), None)
        self.assert_cost(([((1, 1), 1), ((-1, -1), 0)], (1, -1)), None)
        self.assert_cost(([((1, -1), 1), ((-1, 1), 0)], (-1, -1)), None)

    def test_rows_told_twice_sums_and_noughts(self):
        one = ((2, 1, 0, 1), 2)
        other = ((0, -1, 2, 1), 1)
        both = ((2, 0, 2, 2), 3)
        for costs in ((1, 1, 1, 1), (-1, 2, 3, 0), (5, 4, 3, 9)):
            asked = least_cost(([one, other], costs))
            for rows in (
                [one, other, one, other, one], [one, other, both], [both, one, both, other, ((4, 0, 4, 4), 6)],
                [((0, 0, 0, 0), 0), one, ((0, 0, 0, 0), -9), other],
            ):
                self.assert_cost((rows, costs), asked)
            self.assert_cost(([one, ((0, 0, 0, 0), 1), other], costs), None)

    def test_just_one_point(self):
        point = (1, 0, 0, 1, 1)
        rows = [row_of(5, (choice,), 1 if worth else -1, worth) for choice, worth in enumerate(point)]
        for costs in ((0,) * 5, (1, 2, 3, 4, 5), (-7, 7, 7, -7, 0)):
            self.assert_cost((rows, costs), cost_of((rows, costs), point))
            self.assertEqual(search((rows, costs), list(WORDS))[0], point)

    def test_deeds_in_any_order(self):
        problems = [ring(7), places_for(4, 3), covers(random.Random(80), 9), halves(random.Random(81), 9)]
        for problem in problems:
            asked = least_cost(problem)
            for deeds in itertools.permutations(WORDS):
                self.assert_cost(problem, asked, [list(deeds)])
            self.assert_cost(problem, asked, [["learnt", "corners"], ["likes", "shares"], ["learnt", "shares"]])


class SmallProblems(SearchCase):
    def go_through(self, family, seed, many, most):
        chance = random.Random(seed)
        seen = {}
        for _ in range(many):
            asked = self.assert_least(family(chance, chance.randint(3, most)))
            seen[asked is None] = seen.get(asked is None, 0) + 1
        return seen

    def test_any(self):
        seen = self.go_through(any_problem, 82, 250, 9)
        self.assertGreater(min(seen.values()), 50)

    def test_covers(self):
        self.go_through(covers, 83, 40, 12)

    def test_packs(self):
        self.go_through(packs, 84, 40, 12)

    def test_loads(self):
        self.go_through(loads, 85, 40, 11)

    def test_halves(self):
        seen = self.go_through(halves, 86, 40, 10)
        self.assertEqual(len(seen), 2)

    def test_matches(self):
        self.go_through(matches, 87, 30, 12)

    def test_alike(self):
        seen = self.go_through(alike, 88, 60, 10)
        self.assertEqual(len(seen), 2)

    def test_rings(self):
        for count in (3, 4, 5, 8, 11):
            self.assert_cost(ring(count), -(count // 2))

    def test_rings_with_a_choice_that_all_rows_have(self):
        # At the corner this choice is 1; shares have to know that it is no more.
        for count in (3, 5, 7):
            rows = [(row[0] + (-1,), -2) for row in ring(count)[0]]
            problem = (rows, (-1,) * count + (-10,))
            self.assert_cost(problem, -10 - count // 2)
            words = {line[0] for line in search(problem, ["corners", "shares"])[2]}
            self.assertLessEqual({"high", "share"}, words)

    def test_more_things_than_places(self):
        for things, places in ((1, 0), (2, 1), (3, 2), (4, 3), (5, 4)):
            self.assert_cost(places_for(things, places), None)
        for things, places in ((1, 1), (2, 2), (3, 3), (2, 4)):
            self.assert_cost(places_for(things, places, 5), 5 * things)

    def test_beside_each_other(self):
        chance = random.Random(89)
        for _ in range(40):
            one = chance.choice(FAMILIES)(chance, chance.randint(3, 6))
            other = chance.choice(FAMILIES)(chance, chance.randint(3, 6))
            costs = [least_cost(one), least_cost(other)]
            asked = None if None in costs else sum(costs)
            self.assert_cost(beside(one, other), asked)
            self.assert_cost(beside(other, one), asked, [[], list(WORDS)])

    def test_numbered_anew(self):
        chance = random.Random(90)
        for _ in range(40):
            problem = chance.choice(FAMILIES)(chance, 8)
            asked = least_cost(problem)
            count = len(problem[1])
            order = chance.sample(range(count), count)
            rows = [(tuple(row[0][choice] for choice in order), row[1]) for row in problem[0]]
            chance.shuffle(rows)
            self.assert_cost((rows, tuple(problem[1][choice] for choice in order)), asked)

    def test_multiples(self):
        # Costs and rows so many times: the point is the same, and the cost so many times.
        chance = random.Random(91)
        for _ in range(30):
            problem = chance.choice(FAMILIES)(chance, 8)
            asked = least_cost(problem)
            for many in (6, 10 ** 15 + 37):
                rows = [(tuple(many * number for number in row[0]), many * row[1] - many // 2) for row in problem[0]]
                costs = tuple(many * cost for cost in problem[1])
                self.assert_cost((rows, costs), None if asked is None else many * asked)

    def test_eighteen_figures(self):
        chance = random.Random(92)
        for _ in range(40):
            self.assert_least((some_rows(chance, 8, chance.randint(1, 6), GREAT),
                               tuple(chance.randint(-GREAT, GREAT) for _ in range(8))))


class GreatProblems(SearchCase):
    """Of more choices than can be gone through."""

    QUICK = [deeds for deeds in SETS if "corners" in deeds]

    def test_alike_with_likes_and_without(self):
        # As many twos as come to just an odd number: there are none.
        odd = [((2,) * 40, 41), ((-2,) * 40, -41)]
        self.assert_cost((odd, (1,) * 40), None, [["likes"], ["likes", "learnt"], ["corners", "likes"], list(WORDS)])
        self.assert_cost(([row_of(60, range(60), 3, 61)], (1,) * 60), 21, [["likes"], ["corners"], list(WORDS)])
        for count in (10, 11):
            few = ([((2,) * count, 11), ((-2,) * count, -11)], (1,) * count)
            self.assert_cost(few, None)
            self.assert_cost(([((3,) * count, 13)], (1,) * count), 5)

    def test_more_things_than_places(self):
        self.assert_cost(places_for(6, 5), None)
        self.assert_cost(places_for(8, 7), None, [["likes"], ["corners"], ["likes", "learnt"], list(WORDS)])
        self.assert_cost(places_for(7, 7), 7, self.QUICK)

    def test_rings(self):
        self.assert_cost(ring(17), -8)
        self.assert_cost(ring(59), -29, self.QUICK)

    def test_the_same_cost_with_all_sets(self):
        chance = random.Random(93)
        for family, count in (
            (covers, 20), (covers, 26), (packs, 26), (loads, 16), (halves, 16), (matches, 27), (alike, 14),
        ):
            problem = family(chance, count)
            self.assert_cost(problem, self.assert_search(problem, [])[1])

    def test_the_same_cost_with_corners(self):
        chance = random.Random(94)
        for family, count in (
            (covers, 60), (packs, 60), (loads, 40), (halves, 40), (matches, 60), (any_problem, 60),
        ):
            problem = family(chance, count)
            self.assert_cost(problem, self.assert_search(problem, ["corners"])[1], self.QUICK)

    def test_the_same_cost_with_likes(self):
        chance = random.Random(102)
        for _ in range(5):
            problem = alike(chance, 60)
            sets = [["likes", "learnt"], ["corners", "likes"], ["shares", "likes"], list(WORDS)]
            self.assert_cost(problem, self.assert_search(problem, ["likes"])[1], sets)

    def test_beside_each_other(self):
        chance = random.Random(95)
        one = covers(chance, 13)
        other = loads(chance, 13)
        self.assert_cost(beside(one, other), search(one, [])[1] + search(other, [])[1])
        self.assert_cost(beside(one, places_for(5, 4)), None)

    def test_four_hundred_rows(self):
        chance = random.Random(96)
        few = [["corners"], ["learnt"], list(WORDS)]
        for size, sets in ((1, SETS), (9, few), (GREAT, few)):
            point = [chance.randint(0, 1) for _ in range(60)]
            rows = [row_of(60, (choice,), 2 * worth - 1, worth) for choice, worth in enumerate(point[:40])]
            for _ in range(360):
                numbers = tuple(chance.randint(-size, size) for _ in range(60))
                rows.append((numbers, sum(map(int.__mul__, numbers, point)) - chance.randint(0, size)))
            problem = (rows, tuple(chance.randint(-size, size) for _ in range(60)))
            self.assert_cost(problem, self.assert_search(problem, [])[1], sets)
        for size in (1, GREAT):
            self.assert_cost((some_rows(chance, 60, 400, size), (1,) * 60), None, few)


class Bounds(SearchCase):
    """The search with less patience and memory: it finds the same, on other ways."""

    BOUNDS = (("CORNER_PATIENCE", 0), ("CORNER_PATIENCE", 3000), ("LIKES_PATIENCE", 0), ("LIKES_PATIENCE", 200),
              ("MEMORY", 4), ("ROUNDS", 1), ("AT_ONCE", 1))

    def setUp(self):
        self.kept = {name: getattr(nonebetter.knots, name) for name, _ in self.BOUNDS}
        self.high = (nonebetter.branching.HIGH, nonebetter.branching.LESS)

    def tearDown(self):
        for name, number in self.kept.items():
            setattr(nonebetter.knots, name, number)
        nonebetter.branching.HIGH, nonebetter.branching.LESS = self.high

    def test_less_of_each(self):
        chance = random.Random(97)
        problems = [family(chance, 11) for family in FAMILIES] + [ring(9), places_for(4, 3)]
        asked = [least_cost(problem) for problem in problems]
        for name, number in self.BOUNDS:
            setattr(nonebetter.knots, name, number)
            for problem, cost in zip(problems, asked):
                self.assert_cost(problem, cost)
            setattr(nonebetter.knots, name, self.kept[name])

    def test_little_memory_for_long(self):
        nonebetter.knots.MEMORY = 20
        self.assert_cost(places_for(6, 5), None, [["learnt"]])
        self.assert_cost(ring(15), -7, [["learnt"]])

    def test_scores_that_are_made_less(self):
        nonebetter.branching.HIGH = 2000
        nonebetter.branching.LESS = 100
        self.assert_cost(places_for(5, 4), None)
        self.assert_cost(ring(13), -6)


class Papers(SearchCase):
    def some_problems(self, seed, many):
        chance = random.Random(seed)
        for _ in range(many):
            problem = chance.choice(FAMILIES)(chance, 6)
            yield chance, problem, least_cost(problem)

    def assert_right(self, problem, best, paper, least):
        """Where the judge lets a paper by, no point keeps the problem (and costs less than best)."""
        if judged(problem, best, paper) is None:
            self.assertTrue(least is None or best is not None and least >= best, (problem, best, paper))

    def test_they_are_not_let_by_where_there_are_better_points(self):
        for chance, problem, least in self.some_problems(98, 100):
            for deeds in SETS:
                paper = search(problem, deeds)[2]
                if least is not None:
                    self.assertIsNotNone(judged(problem, None, paper))
                    self.assertIsNotNone(judged(problem, least + 1, paper))
                    self.assertIsNone(judged(problem, least, paper))

    def test_whatever_is_let_by_is_right(self):
        # Papers of other problems and other bests, and with things in them exchanged.
        papers = [[]]
        for chance, problem, least in self.some_problems(99, 300):
            told = search(problem, chance.choice(SETS))[2]
            papers = papers[-20:] + [told]
            for paper in papers:
                for best in (None, -9, least, 3, 40):
                    self.assert_right(problem, best, paper, least)
            for _ in range(20):
                paper = copy.deepcopy(told)
                for _ in range(chance.randint(1, 3)):
                    self.meddle(chance, paper)
                for best in (None, least, 40):
                    self.assert_right(problem, best, paper, least)

    def meddle(self, chance, paper):
        """Changes something in a paper."""
        place = chance.randrange(len(paper))
        deed = chance.randint(0, 3)
        if deed == 0 and len(paper) > 1:
            del paper[place]
        elif deed == 1:
            paper.insert(chance.randrange(len(paper)), paper[place])
        else:
            line = list(paper[place])
            spot = chance.randrange(len(line))
            if isinstance(line[spot], int):
                line[spot] += chance.choice((-1, 1))
            elif isinstance(line[spot], list) and line[spot]:
                line[spot].pop(chance.randrange(len(line[spot])))
            paper[place] = tuple(line)

    def test_no_line_that_is_not_needed(self):
        for chance, problem, least in self.some_problems(100, 60):
            for deeds in SETS:
                paper = search(problem, deeds)[2]
                for number in range(len(paper) - 1):
                    later = paper[number + 1:]
                    self.assertTrue(any(number in self.named_by(line) for line in later), (problem, deeds, paper))

    def named_by(self, line):
        if line[0] == "sum":
            return [part[0] for part in line[1]]
        return {"share": line[1:2], "shut": line[1:2], "either": line[1:3]}.get(line[0], ())


class Told(SearchCase):
    PROBLEMS = (ring(7), places_for(3, 2), places_for(2, 2, 3), covers(random.Random(101), 9),
                ([((2, 2, 3), 4), ((-1, -1, -2), -3)], (4, 4, 6)))

    def lists_in(self, paper):
        return [paper] + [part for line in paper for part in line if isinstance(part, list)]

    def test_each_list_is_a_new_one(self):
        for problem in self.PROBLEMS:
            for deeds in SETS:
                lists = self.lists_in(search(problem, deeds)[2]) + [problem[0], deeds]
                self.assertEqual(len({id(part) for part in lists}), len(lists))

    def test_changing_what_was_told_changes_nothing_told_later(self):
        for problem in self.PROBLEMS:
            for deeds in SETS:
                told = search(problem, deeds)
                asked = copy.deepcopy(told)
                for part in reversed(self.lists_in(told[2])):
                    part.clear()
                self.assertEqual(search(problem, deeds), asked)

    def test_changing_what_was_handed_in_behind(self):
        for given in self.PROBLEMS:
            for deeds in SETS:
                problem = copy.deepcopy(given)
                words = list(deeds)
                told = search(problem, words)
                asked = copy.deepcopy(told)
                problem[0].clear()
                words.clear()
                self.assertEqual(told, asked)
                self.assertEqual(search(given, deeds), asked)

    def test_the_rows_are_the_judges_own(self):
        for problem in self.PROBLEMS:
            for deeds in SETS:
                told = search(problem, deeds)
                rows = rows_told(problem, told[1], told[2])
                self.assertEqual(len(rows), len(told[2]))
                self.assertEqual(rows[-1][0], (0,) * len(problem[1]))
                self.assertGreaterEqual(rows[-1][1], 1)


if __name__ == "__main__":
    unittest.main()
