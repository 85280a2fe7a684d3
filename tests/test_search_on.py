"""The search that goes on from a paper."""

import copy
import itertools
import random
import unittest

import nonebetter.knots
from nonebetter.changes import carried, changed, search_on
from nonebetter.judge import judged
from nonebetter.knots import search
from nonebetter.rows import cost_of, keeps

GREAT = 10 ** 18 - 1
WORDS = ("corners", "shares", "likes", "learnt")
SETS = [list(some) for many in range(5) for some in itertools.combinations(WORDS, many)]

# Choices 0 and 1 are alike.
PROBLEM = ([((2, 2, 0), 3), ((-2, 0, 4), 1), ((0, -2, 4), 1)], (4, 4, 9))
# A line of each word that is right for None.
PAPER = [
    ("given", 0), ("given", 1), ("given", 2), ("low", 0), ("high", 2), ("like", [1, 0, 2]), ("sum", [(0, 1), (1, 1)]),
    ("share", 0, 2), ("shut", 0, [(0, 0)]), ("either", 8, 8, 0), ("either", 0, 0, 2), ("sum", [(3, 2), (4, 1)]),
    ("sum", [(5, 1), (2, 1)]), ("shut", 0, [(1, 0), (0, 1)]), ("sum", [(1, 0)]),
]


def named_by(line):
    if line[0] == "sum":
        return [place for place, _ in line[1]]
    return list({"share": line[1:2], "shut": line[1:2], "either": line[1:3]}.get(line[0], ()))


def row_of(count, choices, number, least):
    return (tuple(number if choice in choices else 0 for choice in range(count)), least)


def ring(count):
    """No two neighbours in a ring are taken, as many as may be are."""
    return ([row_of(count, (here, (here + 1) % count), -1, -1) for here in range(count)], (-1,) * count)


def places_for(things, places):
    """Each thing is put at a place, and no two at one."""
    count = things * places
    rows = [row_of(count, range(thing * places, (thing + 1) * places), 1, 1) for thing in range(things)]
    return (rows + [row_of(count, range(place, count, places), -1, -1) for place in range(places)], (1,) * count)


def covers(chance, count):
    """Some of some choices are to be taken."""
    rows = [row_of(count, chance.sample(range(count), 3), 1, 1) for _ in range(count)]
    return (rows, tuple(chance.randint(1, 9) for _ in range(count)))


def any_rows(chance, count):
    size = chance.choice((1, 3, 9))
    rows = [
        (tuple(chance.randint(-size, size) for _ in range(count)), chance.randint(-size, size))
        for _ in range(chance.randint(1, 8))
    ]
    return (rows, tuple(chance.randint(-5, 9) for _ in range(count)))


def any_change(chance, problem):
    count = len(problem[1])
    deed = chance.randint(0, 5)
    if deed == 0:
        return ("choice", chance.randint(-3, 5))
    if deed == 1 and problem[0]:
        return ("less", chance.randrange(len(problem[0])))
    if deed == 2 and problem[0]:
        return ("row", chance.choice(problem[0]))
    if deed == 3:
        return ("cost", chance.randrange(count), chance.randint(-5, 9))
    return ("row", (tuple(chance.randint(-2, 2) for _ in range(count)), chance.randint(-3, 1)))


def least_cost(problem):
    points = itertools.product((0, 1), repeat=len(problem[1]))
    return min((cost_of(problem, point) for point in points if keeps(problem, point)), default=None)


class SearchCase(unittest.TestCase):
    def assert_search(self, problem, deeds, paper, asked):
        """All that is told of a search from a paper; asked is the least cost."""
        ahead = copy.deepcopy((problem, deeds, paper))
        told = search_on(problem, deeds, paper)
        self.assertEqual((problem, deeds, paper), ahead)
        self.assertEqual([type(told), len(told), type(told[2])], [tuple, 3, list])
        point, cost, own = told
        self.assertEqual(cost, asked, ahead)
        self.assertEqual(own[:len(paper)], paper)
        self.assertIsNone(judged(problem, cost, own), ahead)
        if cost is None:
            self.assertIsNone(point)
        else:
            self.assertEqual([type(point), len(point)], [tuple, len(problem[1])])
            self.assertTrue(all(type(worth) is int for worth in point))
            self.assertTrue(keeps(problem, point), ahead)
            self.assertEqual(cost_of(problem, point), cost)
        self.assert_deeds(own[len(paper):], deeds)
        self.assert_needed(own, len(paper))
        return told

    def assert_deeds(self, lines, deeds):
        """Deeds that are not among these are not used."""
        words = {line[0] for line in lines}
        if "likes" not in deeds:
            self.assertNotIn("like", words)
        if "shares" not in deeds:
            self.assertNotIn("share", words)
            if "corners" not in deeds:
                self.assertNotIn("sum", words)

    def assert_needed(self, paper, begin):
        """Behind the handed paper no line stands in vain."""
        named = {place for line in paper for place in named_by(line)}
        self.assertLessEqual(set(range(begin, len(paper) - 1)), named)


class SearchOn(SearchCase):
    def test_a_paper_of_no_lines(self):
        for problem in (ring(7), places_for(3, 2), places_for(2, 2), covers(random.Random(133), 8), PROBLEM):
            asked = least_cost(problem)
            for deeds in SETS:
                self.assert_search(problem, deeds, [], asked)

    def test_no_choices_and_no_rows(self):
        for deeds in SETS:
            self.assert_search(([], ()), deeds, [("like", [])], 0)
            self.assert_search(([((), 0)], ()), deeds, [("given", 0), ("like", [])], 0)
            self.assert_search(([((), 1)], ()), deeds, [("given", 0), ("sum", [(0, 0)])], None)
            self.assert_search(([], (3, -4)), deeds, [("low", 0), ("high", 1), ("sum", [(0, 1), (1, 1)])], -4)

    def test_a_paper_that_is_let_by_already(self):
        for problem in (places_for(3, 2), ([((2, 2), 1), ((-2, -2), -1)], (1, 1)), ([((0,), 1)], (1,))):
            for deeds in SETS:
                paper = search(problem, deeds)[2]
                self.assertIsNone(judged(problem, None, paper))
                for others in ([], ["corners"], ["learnt"], list(WORDS)):
                    told = self.assert_search(problem, others, paper, None)
                    # It is over at once.
                    self.assertLessEqual(len(told[2]), len(paper) + 1)
                # Its last row may stand anywhere.
                self.assert_search(problem, deeds, paper + [("low", 0)], None)

    def test_papers_cut_off(self):
        problem = places_for(4, 3)
        for deeds in ([], ["learnt"], ["corners"], ["likes"], ["corners", "shares"], list(WORDS)):
            paper = search(problem, deeds)[2]
            for length in range(0, len(paper), max(1, len(paper) // 12)):
                self.assert_search(problem, deeds, paper[:length], None)
                self.assert_search(problem, ["corners"], paper[:length], None)

    def test_each_word_in_the_paper(self):
        asked = least_cost(PROBLEM)
        for deeds in SETS:
            for length in range(len(PAPER) + 1):
                self.assert_search(PROBLEM, deeds, PAPER[:length], asked)

    def test_rows_that_keep_but_one_of_points_alike(self):
        # The point that is told keeps the problem, whatever likes say.
        problem = ([((1, 1, 1), 1), ((-1, -1, -1), -1)], (1, 1, 1))
        turns = [list(turn) for turn in itertools.permutations(range(3))]
        for deeds in SETS:
            for some in itertools.combinations(turns, 3):
                self.assert_search(problem, deeds, [("like", turn) for turn in some], 1)

    def test_behind_changes(self):
        chance = random.Random(134)
        seen = {}
        for _ in range(60):
            problem = any_rows(chance, chance.randint(2, 6))
            deeds = chance.choice(SETS)
            point, best, paper = search(problem, deeds)
            for _ in range(5):
                other = changed(problem, any_change(chance, problem))
                handed = carried(problem, best, paper, other, None)[0]
                asked = least_cost(other)
                told = [self.assert_search(other, deeds, handed, asked) for deeds in SETS]
                seen[(best is None, asked is None)] = True
                problem, best, paper = other, asked, chance.choice(told)[2]
        self.assertEqual(len(seen), 4)

    def test_behind_changes_of_problems_with_likes_and_shares(self):
        chance = random.Random(135)
        for problem in (ring(7), ring(6), places_for(3, 2), places_for(3, 3), covers(chance, 7)):
            for deeds in SETS:
                here = problem
                point, best, paper = search(here, deeds)
                for _ in range(3):
                    other = changed(here, any_change(chance, here))
                    handed = carried(here, best, paper, other, None)[0]
                    asked = search(other, deeds)[1]
                    paper = self.assert_search(other, chance.choice(SETS), handed, asked)[2]
                    here, best = other, asked

    def test_an_answer_is_still_there(self):
        # Where there is no point, a row more changes nothing, and no line is written but perhaps one.
        problem = places_for(5, 4)
        for deeds in ([], ["corners"], ["learnt"], list(WORDS)):
            paper = search(problem, deeds)[2]
            for change in (("row", row_of(20, (3, 4), 1, 1)), ("choice", -5), ("cost", 3, 9)):
                other = changed(problem, change)
                handed, places = carried(problem, None, paper, other, None)
                if "likes" not in deeds:
                    self.assertNotIn(None, places)
                    told = self.assert_search(other, deeds, handed, None)
                    self.assertLessEqual(len(told[2]), len(handed) + 1)

    def test_right_lines_of_any_kind(self):
        # Rows with great numbers, rows that all points keep, rows told many times.
        chance = random.Random(136)
        for _ in range(20):
            problem = any_rows(chance, 6)
            asked = least_cost(problem)
            paper = [("given", 0), ("low", 0), ("high", 5), ("given", 0)]
            for number in range(40):
                paper.append(("sum", [(chance.randrange(number + 4), GREAT), (chance.randrange(number + 4), 1)]))
            paper += [("share", number, 1) for number in range(20)]
            for deeds in SETS:
                self.assert_search(problem, deeds, paper, asked)

    def test_great_problems(self):
        chance = random.Random(137)
        for problem in (covers(chance, 40), ring(41), places_for(7, 7)):
            for deeds in (["corners"], ["corners", "shares"], list(WORDS)):
                point, best, paper = search(problem, deeds)
                for change in (("cost", 2, 4), ("less", 5), ("row", row_of(len(problem[1]), (1, 9, 17), 1, 1))):
                    other = changed(problem, change)
                    handed = carried(problem, best, paper, other, None)[0]
                    self.assert_search(other, deeds, handed, search(other, deeds)[1])

    def test_three_thousand_lines(self):
        chance = random.Random(138)
        point = [chance.randint(0, 1) for _ in range(60)]
        rows = [row_of(60, (choice,), 2 * worth - 1, worth) for choice, worth in enumerate(point[:40])]
        for _ in range(360):
            numbers = tuple(chance.randint(-9, 9) for _ in range(60))
            rows.append((numbers, sum(map(int.__mul__, numbers, point)) - chance.randint(0, 9)))
        problem = (rows, tuple(chance.randint(-9, 9) for _ in range(60)))
        paper = [("given", number) for number in range(400)]
        paper += [("sum", [(chance.randrange(400), chance.randint(1, 9)) for _ in range(3)]) for _ in range(2600)]
        asked = search(problem, ["corners"])[1]
        for deeds in ([], ["corners"], list(WORDS)):
            self.assert_search(problem, deeds, paper, asked)

    def test_long_papers_that_search_told(self):
        # More than three thousand lines: they were told, and may be handed in.
        problem = places_for(6, 5)
        paper = search(problem, [])[2]
        self.assertGreater(len(paper), 3000)
        self.assert_search(problem, ["learnt"], paper, None)
        fewer = changed(problem, ("less", 0))
        handed = carried(problem, None, paper, fewer, None)[0]
        self.assert_search(fewer, ["learnt"], handed, 5)


class Leans(SearchCase):
    """What the paper tells is not sought again."""

    def test_on_shut_outs(self):
        problem = places_for(5, 4)
        for deeds in ([], ["learnt"], ["likes"]):
            paper = search(problem, deeds)[2]
            told = self.assert_search(problem, [], paper[:-1], None)
            self.assertLessEqual(len(told[2]), len(paper) + 5)
            half = paper[:len(paper) // 2]
            told = self.assert_search(problem, [], half, None)
            self.assertLess(len(told[2]) - len(half), 2 * len(search(problem, [])[2]) // 3)

    def test_on_shares(self):
        for seed in range(8):
            problem = covers(random.Random(seed), 30)
            point, cost, paper = search(problem, ["corners", "shares"])
            handed = carried(problem, cost, paper, problem, None)[0]
            told = self.assert_search(problem, ["corners"], handed, cost)
            self.assertLessEqual(len(told[2]) - len(handed), 5)

    def test_on_given_rows(self):
        for deeds in SETS:
            problem = ring(6)
            handed = [("given", number) for number in range(6)]
            told = self.assert_search(problem, deeds, handed, -3)
            self.assertNotIn("given", [line[0] for line in told[2][6:]])


class Few(SearchCase):
    """With fewer rows of the paper taken over the search finds the same."""

    def setUp(self):
        self.taken = nonebetter.knots.TAKEN

    def tearDown(self):
        nonebetter.knots.TAKEN = self.taken

    def test_few(self):
        chance = random.Random(139)
        problems = [any_rows(chance, 6) for _ in range(10)] + [ring(7), places_for(4, 3)]
        for taken in (0, 1, 3):
            nonebetter.knots.TAKEN = taken
            for problem in problems:
                for deeds in SETS:
                    point, cost, paper = search(problem, deeds)
                    handed = carried(problem, cost, paper, problem, None)[0]
                    self.assert_search(problem, deeds, handed, cost)


class Told(unittest.TestCase):
    def handed(self, deeds):
        return copy.deepcopy((PROBLEM, deeds, PAPER))

    def lists_in(self, thing):
        inner = [part for more in thing for part in self.lists_in(more)] if isinstance(thing, (tuple, list)) else []
        return inner + ([thing] if isinstance(thing, list) else [])

    def test_each_list_is_a_new_one(self):
        for deeds in SETS:
            handed = self.handed(deeds)
            lists = self.lists_in(handed) + self.lists_in(search_on(*handed))
            self.assertEqual(len({id(part) for part in lists}), len(lists))

    def test_changing_what_was_told_changes_nothing(self):
        for deeds in SETS:
            handed = self.handed(deeds)
            told = search_on(*handed)
            asked = copy.deepcopy(told)
            for part in self.lists_in(told):
                part.clear()
            self.assertEqual(handed, self.handed(deeds))
            self.assertEqual(search_on(*handed), asked)

    def test_changing_what_was_handed_in_behind(self):
        for deeds in SETS:
            handed = self.handed(deeds)
            told = search_on(*handed)
            asked = copy.deepcopy(told)
            for part in self.lists_in(handed):
                part.clear()
            self.assertEqual(told, asked)


if __name__ == "__main__":
    unittest.main()
