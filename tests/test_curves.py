"""The problem of a book by a day, and the curve of a book."""

import copy
import itertools
import random
import unittest

from nonebetter.allpoints import least_points
from nonebetter.answers import answer_to
from nonebetter.booked import choices, point_of, problem_of
from nonebetter.books import looked
from nonebetter.curves import curve, problem_by
from nonebetter.judge import judged
from nonebetter.plans import broken, cost_of_plan
from nonebetter.rows import keeps

# The later the cheaper: slow costs less than quick, and the saw is shut at first.
BOOK = [
    ["days", 5],
    ["bench", "saw", 2],
    ["shut", "saw", 0, 1],
    ["work", "chair"],
    ["way", "chair", "quick", 1, 90],
    ["way", "chair", "slow", 3, 40],
    ["uses", "chair", "quick", "saw", 2],
    ["uses", "chair", "slow", "saw", 1],
    ["work", "door"],
    ["way", "door", "quick", 1, 7],
    ["uses", "door", "quick", "saw", 2],
]

# Three works that need the whole bench for a day each, and but two days.
CROWDED = [["days", 2], ["bench", "saw", 1]] + [
    row for work in "abc" for row in (["work", work], ["way", work, "q", 1, 5], ["uses", work, "q", "saw", 1])]


def plans_of(book):
    """All plans of a book, kept or broken."""
    works = [row[1] for row in book if row[0] == "work"]
    ways = [[(row[2], begin) for row in book if row[:2] == ["way", work] for begin in range(book[0][1] - row[3] + 1)]
            for work in works]
    return [dict(zip(works, taken)) for taken in itertools.product(*ways)]


def end_of(book, plan):
    """The day on which the last work has ended; 0 without works."""
    lengths = {tuple(row[1:3]): row[3] for row in book if row[0] == "way"}
    return max([begin + lengths[work, way] for work, (way, begin) in plan.items()], default=0)


def costs_by(book):
    """For each day the least cost of plans that end by it, of all plans."""
    pairs = [(end_of(book, plan), cost_of_plan(book, plan)) for plan in plans_of(book) if broken(book, plan) is None]
    return [min([cost for end, cost in pairs if end <= day], default=None) for day in range(book[0][1] + 1)]


def some_book(chance):
    """A small book, in which longer ways cost less in most cases."""
    days = chance.choice((1, 2, 3, 4, 4, 5))
    works, benches, stores = "bac"[:chance.randint(0, 3)], "xy"[:chance.randint(0, 2)], "s"[:chance.randint(0, 1)]
    book = [["days", days]] + [["bench", bench, chance.randint(1, 5)] for bench in benches]
    for store in stores:
        most = chance.randint(1, 6)
        book.append(["store", store, most, chance.randint(0, most)])
    book += [["shut", bench, 0, 1] for bench in benches if chance.randrange(3) == 0]
    for work in works:
        book.append(["work", work])
        for way in "rq"[:chance.choice((0, 1, 1, 2, 2, 2, 2, 2))]:
            length = chance.randint(1, days)
            book.append(["way", work, way, length, 3 * (days - length) + chance.randint(0, 5)])
            book += [["uses", work, way, bench, chance.randint(1, 3)] for bench in benches if chance.randrange(3) == 0]
            for word, store in itertools.product(("takes", "gives"), stores):
                if chance.randrange(4) == 0:
                    book.append([word, work, way, store, chance.randint(1, 3)])
        if chance.randrange(4) == 0:
            book.append(["late", work, chance.randint(0, days), chance.randint(1, 9)])
    for pair in itertools.permutations(works, 2):
        if chance.randrange(8) == 0:
            book.append(["after", *pair, chance.randint(0, 1)])
    return book


def great_book(chance):
    """A book of about sixty choices that has plans in most cases."""
    days, ways = chance.choice(((12, "q"), (4, "qrs"), (6, "qr")))
    book = [["days", days]] + [["bench", bench, chance.randint(4, 9)] for bench in "xyz"] + [["store", "s", 12, 6]]
    for work in "abcde":
        book.append(["work", work])
        for way in ways:
            book.append(["way", work, way, chance.randint(1, max(1, days // 3)), chance.randint(0, 50)])
            book += [["uses", work, way, bench, chance.randint(1, 4)] for bench in "xyz" if chance.randrange(3)]
            book += [[word, work, way, "s", chance.randint(1, 4)] for word in ("takes", "gives") if chance.randrange(2)]
        book.append(["late", work, chance.randint(0, days), chance.randint(1, 30)])
    return book + [["after", "b", "a", 0]]


class CurveCase(unittest.TestCase):
    def assert_problem(self, book, day):
        """The book's problem, and one row more."""
        ahead = copy.deepcopy(book)
        told = problem_by(book, day)
        self.assertEqual(book, ahead)
        self.assertEqual([type(told), type(told[0]), type(told[1])], [tuple, list, tuple])
        rows, costs = problem_of(book)
        self.assertEqual((told[0][:-1], told[1]), (rows, costs))
        numbers, least = told[0][-1]
        lengths = {tuple(row[1:3]): row[3] for row in book if row[0] == "way"}
        late = tuple(-1 if begin + lengths[work, way] > day else 0 for work, way, begin in choices(book))
        self.assertEqual((numbers, least), (late, 0))
        self.assertTrue(all(type(number) is int for number in numbers + (least,)))
        return told

    def assert_curve(self, book):
        """All that is told of a curve but that none costs less; this the judge says."""
        looked(book)
        ahead = copy.deepcopy(book)
        told = curve(book)
        self.assertEqual(book, ahead)
        self.assertEqual([type(told), len(told)], [list, book[0][1] + 1])
        for day, pair in enumerate(told):
            self.assertEqual([type(pair), len(pair), type(pair[1])], [tuple, 2, list])
            self.assertIn(type(pair[0]), (int, type(None)))
            self.assertIsNone(judged(self.assert_problem(book, day), pair[0], pair[1]), (book, day))
        costs = [pair[0] for pair in told]
        known = [cost for cost in costs if cost is not None]
        # None comes ahead of all costs, and these never rise.
        self.assertEqual(costs, [None] * (len(costs) - len(known)) + sorted(known, reverse=True))
        self.assertEqual(costs[-1], answer_to(book)[2])
        return costs


class ProblemBy(CurveCase):
    def test_number_by_number(self):
        book = [["days", 3], ["work", "b"], ["way", "b", "r", 2, 4], ["work", "a"], ["way", "a", "q", 1, 5], ["way", "a", "r", 3, 6]]
        # The choices end on 2, 3; 1, 2, 3; 3.
        for day, numbers in enumerate(((-1,) * 6, (-1, -1, 0, -1, -1, -1), (0, -1, 0, 0, -1, -1), (0,) * 6)):
            told = problem_by(book, day)
            self.assertEqual(told[0], problem_of(book)[0] + [(numbers, 0)])
            self.assertEqual(told[1], (4, 4, 5, 5, 5, 6))

    def test_every_day(self):
        for book in (BOOK, CROWDED):
            for day in range(book[0][1] + 1):
                self.assert_problem(book, day)

    def test_without_choices(self):
        for book in ([["days", 2]], [["days", 2], ["work", "a"]], [["days", 2], ["bench", "saw", 1]]):
            for day in range(3):
                self.assertEqual(self.assert_problem(book, day)[0][-1], ((), 0))

    def test_its_points_are_the_plans_that_end_by_the_day(self):
        chance = random.Random(61)
        counts = {True: 0, False: 0}
        for _ in range(60):
            book = some_book(chance)
            for day in range(book[0][1] + 1):
                problem = self.assert_problem(book, day)
                for plan in plans_of(book)[:60]:
                    good = broken(book, plan) is None and end_of(book, plan) <= day
                    counts[good] += 1
                    self.assertEqual(keeps(problem, point_of(book, plan)), good)
        self.assertGreater(min(counts.values()), 300, counts)


class Curve(CurveCase):
    def test_the_later_the_cheaper(self):
        # Both quick one behind the other on days 1 and 2; slow needs days 1 to 3, and the door stands ahead or behind.
        self.assertEqual(self.assert_curve(BOOK), [None, None, None, 97, 97, 47])

    def test_without_a_plan(self):
        self.assertEqual(self.assert_curve(CROWDED), [None] * 3)
        self.assertEqual(self.assert_curve([["days", 3], ["work", "a"]]), [None] * 4)

    def test_without_works(self):
        self.assertEqual(self.assert_curve([["days", 1]]), [0, 0])
        self.assertEqual(self.assert_curve([["days", 12], ["bench", "saw", 0], ["store", "oil", 2, 1]]), [0] * 13)

    def test_one_work(self):
        book = [["days", 4], ["work", "a"], ["way", "a", "q", 1, 9], ["way", "a", "r", 2, 5], ["way", "a", "s", 4, 0]]
        self.assertEqual(self.assert_curve(book), [None, 9, 5, 5, 0])
        # To be late costs more than it spares.
        self.assertEqual(self.assert_curve(book + [["late", "a", 1, 4]]), [None, 9, 9, 9, 9])
        self.assertEqual(self.assert_curve(book + [["late", "a", 1, 2]]), [None, 9, 7, 7, 6])

    def test_all_plans_gone_through(self):
        chance = random.Random(62)
        several = 0
        for _ in range(250):
            book = some_book(chance)
            costs = self.assert_curve(book)
            self.assertEqual(costs, costs_by(book), book)
            several += len(set(costs)) > 2
        self.assertGreater(several, 20)

    def test_all_points_gone_through(self):
        chance = random.Random(63)
        done = 0
        while done < 15:
            book = some_book(chance)
            if len(choices(book)) <= 11:
                done += 1
                costs = [least_points(problem_by(book, day))[0] for day in range(book[0][1] + 1)]
                self.assertEqual(self.assert_curve(book), costs)

    def test_great_books(self):
        chance = random.Random(64)
        several = done = 0
        while done < 10:
            book = great_book(chance)
            if len(choices(book)) <= 60:
                done += 1
                several += len(set(self.assert_curve(book))) > 2
        self.assertGreater(several, 3)


class Told(CurveCase):
    def inner(self, thing):
        """All lists within a thing."""
        inner = [part for more in thing for part in self.inner(more)] if isinstance(thing, (tuple, list)) else []
        return inner + ([thing] if isinstance(thing, list) else [])

    def asked(self):
        """Functions, with the same books each time, all of them new."""
        books = (BOOK, CROWDED, [["days", 1]])
        asked = [(curve, copy.deepcopy(book)) for book in books]
        return asked + [(lambda book: problem_by(book, 1), copy.deepcopy(book)) for book in books]

    def test_by_name(self):
        self.assertEqual(curve(book=BOOK), curve(BOOK))
        self.assertEqual(problem_by(book=BOOK, day=2), problem_by(BOOK, 2))

    def test_each_list_is_a_new_one(self):
        for ask, book in self.asked():
            parts = self.inner(book) + self.inner(ask(book)) + self.inner(ask(book))
            self.assertEqual(len({id(part) for part in parts}), len(parts))

    def test_changing_what_was_told_changes_nothing(self):
        for number, (ask, book) in enumerate(self.asked()):
            told = ask(book)
            kept = copy.deepcopy(told)
            for part in self.inner(told):
                part.clear()
            self.assertEqual(book, self.asked()[number][1])
            self.assertEqual(ask(book), kept)

    def test_changing_what_was_handed_in_behind(self):
        for ask, book in self.asked():
            told = ask(book)
            kept = copy.deepcopy(told)
            for part in self.inner(book):
                part.clear()
            self.assertEqual(told, kept)


if __name__ == "__main__":
    unittest.main()
