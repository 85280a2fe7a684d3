"""Books as problems: choices, rows with labels, and plans as points."""

import copy
import itertools
import random
import unittest

from nonebetter.allpoints import all_points, least_points
from nonebetter.booked import choices, labelled, plan_of, point_of, problem_of
from nonebetter.books import looked
from nonebetter.plans import broken, cost_of_plan
from nonebetter.rows import cost_of, keeps

# A book with rows of every form.
BOOK = [
    ["days", 2],
    ["work", "a"],
    ["store", "oil", 5, 2],
    ["way", "a", "q", 1, 10],
    ["late", "a", 1, 5],
    ["work", "b"],
    ["bench", "saw", 3],
    ["after", "b", "a", 1],
    ["way", "b", "q", 1, 7],
    ["uses", "a", "q", "saw", 2],
    ["way", "a", "s", 2, 4],
    ["takes", "a", "q", "oil", 2],
    ["gives", "a", "q", "oil", 3],
    ["gives", "b", "q", "oil", 4],
    ["shut", "saw", 1, 2],
    ["uses", "a", "s", "saw", 1],
    ["after", "a", "b", 0],
    ["takes", "a", "s", "oil", 1],
]

CHOICES = [("a", "q", 0), ("a", "q", 1), ("a", "s", 0), ("b", "q", 0), ("b", "q", 1)]

LABELLED = [
    (("work", "a", 1), ((1, 1, 1, 0, 0), 1)),
    (("work", "a", -1), ((-1, -1, -1, 0, 0), -1)),
    (("work", "b", 1), ((0, 0, 0, 1, 1), 1)),
    (("work", "b", -1), ((0, 0, 0, -1, -1), -1)),
    (("room", "saw", 0), ((-2, 0, -1, 0, 0), -3)),
    (("room", "saw", 1), ((0, -2, -1, 0, 0), 0)),
    (("least", "oil", 0), ((-2, 0, -1, 0, 0), -2)),
    (("most", "oil", 0), ((2, 0, 1, 0, 0), -3)),
    (("least", "oil", 1), ((1, -2, -1, 4, 0), -2)),
    (("most", "oil", 1), ((-1, 2, 1, -4, 0), -3)),
    (("least", "oil", 2), ((1, 1, -1, 4, 4), -2)),
    (("most", "oil", 2), ((-1, -1, 1, -4, -4), -3)),
    (("after", "b", "a", 0), ((-1, 0, -1, 0, 0), 0)),
    (("after", "b", "a", 1), ((-1, -1, -1, 0, 0), 0)),
    (("after", "b", "a", 2), ((-1, -1, -1, 1, 0), 0)),
    (("after", "a", "b", 0), ((0, 0, 0, -1, 0), 0)),
    (("after", "a", "b", 1), ((1, 0, 0, -1, -1), 0)),
    (("after", "a", "b", 2), ((1, 1, 1, -1, -1), 0)),
]

COSTS = (10, 15, 9, 7, 7)


def row_of(numbers, least):
    return (tuple(numbers), least)


def some_book(chance, most_choices):
    """A book with few choices, its rows mingled as far as a book's may be."""
    while True:
        days = chance.randint(1, 4)
        # The rarer rows are that bind works, the more plans are kept.
        rare = chance.choice((2, 4, 6))
        works, benches, stores = ("c", "b", "a"), ("y", "x"), ("t", "s")
        works = works[:chance.choice((0, 1, 2, 2, 3, 3))]
        benches, stores = benches[:chance.randint(0, 2)], stores[:chance.randint(0, 2)]
        rows = [["bench", bench, chance.randint(0, 5)] for bench in benches] + [["work", work] for work in works]
        for store in stores:
            most = chance.randint(0, 6)
            rows.append(["store", store, most, chance.randint(0, most)])
        for bench in benches:
            for _ in range(chance.choice((0, 0, 1, 2))):
                begin = chance.randrange(days)
                rows.append(["shut", bench, begin, chance.randint(begin + 1, days)])
        for work in works:
            for way in ("r", "q")[:2 if chance.randrange(2) else chance.choice((0, 1, 1, 1, 1, 1))]:
                rows.append(["way", work, way, chance.randint(1, days), chance.randint(0, 9)])
                for bench in benches:
                    if chance.randrange(rare) == 0:
                        rows.append(["uses", work, way, bench, chance.randint(1, 3)])
                for word, store in itertools.product(("takes", "gives"), stores):
                    if chance.randrange(rare) == 0:
                        rows.append([word, work, way, store, chance.randint(1, 3)])
            if chance.randrange(2):
                rows.append(["late", work, chance.randint(0, days), chance.randint(1, 9)])
        for pair in itertools.permutations(works, 2):
            if chance.randrange(2 * rare) == 0:
                rows.append(["after", *pair, chance.choice((0, 0, 1, chance.randint(0, days)))])
        chance.shuffle(rows)
        rank = {"bench": 0, "store": 0, "work": 0, "way": 1, "shut": 1, "late": 1, "after": 1}
        book = [["days", days]] + sorted(rows, key=lambda row: rank.get(row[0], 2))
        looked(book)
        if sum(days - row[3] + 1 for row in rows if row[0] == "way") <= most_choices:
            return book


def plans_of(book):
    """All plans of a book, kept or broken."""
    works = [row[1] for row in book if row[0] == "work"]
    ways = [[(row[2], begin) for row in book if row[:2] == ["way", work] for begin in range(book[0][1] - row[3] + 1)]
            for work in works]
    return [dict(zip(works, taken)) for taken in itertools.product(*ways)]


class BookedCase(unittest.TestCase):
    def asked_of(self, function, book, *more):
        """What is told; what was handed in is the same behind."""
        looked(book)
        ahead = copy.deepcopy((book, more))
        told = function(book, *more)
        self.assertEqual((book, more), ahead)
        return told

    def assert_choices(self, book, asked):
        told = self.asked_of(choices, book)
        self.assertEqual(told, asked)
        self.assertIs(type(told), list)
        for choice in told:
            self.assertEqual([type(choice), [type(part) for part in choice]], [tuple, [str, str, int]])

    def assert_labelled(self, book, asked):
        told = self.asked_of(labelled, book)
        self.assertEqual(told, asked)
        self.assertIs(type(told), list)
        for pair in told:
            label, (numbers, least) = pair
            self.assertEqual([type(pair), type(label), type(pair[1]), type(numbers)], [tuple] * 4)
            self.assertEqual({type(number) for number in numbers + (least, label[-1])}, {int})
        self.assertEqual(self.asked_of(problem_of, book)[0], [row for label, row in asked])

    def assert_problem(self, book, asked):
        told = self.asked_of(problem_of, book)
        self.assertEqual(told, asked)
        self.assertEqual([type(told), type(told[0]), type(told[1])], [tuple, list, tuple])
        self.assertEqual(told[0], [row for label, row in labelled(book)])
        self.assertEqual({type(cost) for cost in told[1]} | {int}, {int})


class Choices(BookedCase):
    def test_every_form(self):
        self.assert_choices(BOOK, CHOICES)

    def test_works_in_order(self):
        book = [["days", 2], ["work", "z"], ["work", "a"], ["work", "m"], ["way", "a", "q", 2, 0], ["way", "m", "q", 2, 0],
                ["way", "z", "q", 2, 0]]
        self.assert_choices(book, [("z", "q", 0), ("a", "q", 0), ("m", "q", 0)])

    def test_ways_in_order(self):
        book = [["days", 2], ["work", "b"], ["way", "b", "z", 2, 0], ["work", "a"], ["way", "a", "q", 2, 0],
                ["way", "b", "a", 2, 9], ["way", "a", "b", 2, 0], ["way", "b", "m", 2, 0]]
        asked = [("b", "z", 0), ("b", "a", 0), ("b", "m", 0), ("a", "q", 0), ("a", "b", 0)]
        self.assert_choices(book, asked)

    def test_lengths(self):
        for days in range(1, 13):
            for length in range(1, days + 1):
                book = [["days", days], ["work", "a"], ["way", "a", "q", length, 5], ["way", "a", "r", days, 5]]
                asked = [("a", "q", begin) for begin in range(days + 1 - length)]
                self.assert_choices(book, asked + [("a", "r", 0)])

    def test_as_long_as_all_days_and_a_day_shorter(self):
        book = [["days", 4], ["work", "a"], ["way", "a", "q", 4, 5], ["way", "a", "r", 3, 5], ["way", "a", "s", 1, 0]]
        asked = [("a", "q", 0), ("a", "r", 0), ("a", "r", 1)] + [("a", "s", begin) for begin in range(4)]
        self.assert_choices(book, asked)

    def test_works_without_ways(self):
        self.assert_choices([["days", 3], ["work", "a"]], [])
        book = [["days", 3], ["work", "a"], ["work", "b"], ["way", "b", "q", 3, 1], ["work", "c"]]
        self.assert_choices(book, [("b", "q", 0)])

    def test_no_works(self):
        self.assert_choices([["days", 3]], [])
        self.assert_choices([["days", 3], ["bench", "saw", 3], ["store", "oil", 3, 3]], [])

    def test_sixty(self):
        book = [["days", 4]]
        for work in "abcde":
            book.append(["work", work])
            book += [["way", work, way, 1, 0] for way in "zyx"]
        asked = [(work, way, begin) for work in "abcde" for way in "zyx" for begin in range(4)]
        self.assertEqual(len(asked), 60)
        self.assert_choices(book, asked)

    def test_other_rows_change_nothing(self):
        # Neither shut days nor works behind others take a choice away.
        book = [["days", 2], ["bench", "saw", 0], ["work", "a"], ["way", "a", "q", 1, 1], ["uses", "a", "q", "saw", 9]]
        self.assert_choices(book + [["shut", "saw", 0, 2], ["late", "a", 0, 1]], [("a", "q", 0), ("a", "q", 1)])


class Rows(BookedCase):
    def test_every_form(self):
        self.assert_labelled(BOOK, LABELLED)
        self.assert_problem(BOOK, ([row for label, row in LABELLED], COSTS))

    def test_nothing_but_days(self):
        for days in (1, 12):
            self.assert_labelled([["days", days]], [])
            self.assert_problem([["days", days]], ([], ()))

    def test_no_works(self):
        book = [["days", 2], ["bench", "saw", 3], ["shut", "saw", 0, 1], ["store", "oil", 9, 2]]
        asked = [
            (("room", "saw", 0), ((), 0)), (("room", "saw", 1), ((), -3)), (("least", "oil", 0), ((), -2)),
            (("most", "oil", 0), ((), -7)), (("least", "oil", 1), ((), -2)), (("most", "oil", 1), ((), -7)),
            (("least", "oil", 2), ((), -2)), (("most", "oil", 2), ((), -7)),
        ]
        self.assert_labelled(book, asked)
        self.assert_problem(book, ([row for label, row in asked], ()))

    def test_no_benches_and_no_stores(self):
        book = [["days", 1], ["work", "b"], ["work", "a"], ["way", "a", "q", 1, 3]]
        asked = [
            (("work", "b", 1), ((0,), 1)), (("work", "b", -1), ((0,), -1)),
            (("work", "a", 1), ((1,), 1)), (("work", "a", -1), ((-1,), -1)),
        ]
        self.assert_labelled(book, asked)
        self.assert_problem(book, ([row for label, row in asked], (3,)))

    def test_works_without_ways(self):
        asked = [(("work", "a", 1), ((), 1)), (("work", "a", -1), ((), -1))]
        self.assert_labelled([["days", 5], ["work", "a"]], asked)
        asked = [(("after", "b", "a", day), ((), 0)) for day in range(3)]
        told = self.asked_of(labelled, [["days", 2], ["work", "a"], ["work", "b"], ["after", "b", "a", 1]])
        self.assertEqual(told[4:], asked)

    def test_benches_days_and_rooms(self):
        book = [["days", 3], ["bench", "z", 0], ["bench", "a", 99], ["bench", "m", 5], ["work", "w"],
                ["way", "w", "q", 2, 0], ["uses", "w", "q", "a", 99], ["uses", "w", "q", "m", 1], ["shut", "a", 1, 3],
                ["shut", "m", 2, 3], ["shut", "m", 0, 1]]
        self.assertEqual(self.asked_of(labelled, book)[2:], [
            (("room", "z", 0), row_of((0, 0), 0)), (("room", "z", 1), row_of((0, 0), 0)),
            (("room", "z", 2), row_of((0, 0), 0)), (("room", "a", 0), row_of((-99, 0), -99)),
            (("room", "a", 1), row_of((-99, -99), 0)), (("room", "a", 2), row_of((0, -99), 0)),
            (("room", "m", 0), row_of((-1, 0), 0)), (("room", "m", 1), row_of((-1, -1), -5)),
            (("room", "m", 2), row_of((0, -1), 0)),
        ])

    def test_stores_days_and_bounds(self):
        book = [["days", 2], ["store", "z", 999, 999], ["store", "a", 999, 0], ["work", "w"], ["way", "w", "q", 1, 0],
                ["takes", "w", "q", "a", 99], ["gives", "w", "q", "a", 98], ["gives", "w", "q", "z", 7]]
        self.assertEqual(self.asked_of(labelled, book)[2:], [
            (("least", "z", 0), row_of((0, 0), -999)), (("most", "z", 0), row_of((0, 0), 0)),
            (("least", "z", 1), row_of((7, 0), -999)), (("most", "z", 1), row_of((-7, 0), 0)),
            (("least", "z", 2), row_of((7, 7), -999)), (("most", "z", 2), row_of((-7, -7), 0)),
            (("least", "a", 0), row_of((-99, 0), 0)), (("most", "a", 0), row_of((99, 0), -999)),
            (("least", "a", 1), row_of((-1, -99), 0)), (("most", "a", 1), row_of((1, 99), -999)),
            (("least", "a", 2), row_of((-1, -1), 0)), (("most", "a", 2), row_of((1, 1), -999)),
        ])

    def test_gaps(self):
        # a ends on 1, 2, 3; b begins on 0, 1, 2.
        for gap in range(4):
            book = [["days", 3], ["work", "a"], ["work", "b"], ["way", "a", "q", 1, 0], ["way", "b", "q", 1, 0],
                    ["after", "a", "b", gap]]
            asked = []
            for day in range(4):
                ended = [1 if end + gap <= day else 0 for end in (1, 2, 3)]
                begun = [-1 if begin <= day else 0 for begin in (0, 1, 2)]
                asked.append((("after", "a", "b", day), row_of(ended + begun, 0)))
            self.assertEqual(self.asked_of(labelled, book)[4:], asked)
        self.assertEqual(asked[3][1], ((0, 0, 0, -1, -1, -1), 0))

    def test_a_third_work_in_between(self):
        book = [["days", 1], ["work", "b"], ["work", "c"], ["work", "a"]]
        book += [["way", work, "q", 1, 0] for work in "abc"] + [["after", "a", "b", 0]]
        asked = [(("after", "a", "b", 0), row_of((-1, 0, 0), 0)), (("after", "a", "b", 1), row_of((-1, 0, 1), 0))]
        self.assertEqual(self.asked_of(labelled, book)[6:], asked)

    def test_order_of_the_kinds(self):
        # The book has them the other way round.
        book = [["days", 1], ["work", "b"], ["work", "a"], ["after", "a", "b", 0], ["store", "oil", 1, 1],
                ["bench", "saw", 1]]
        self.assertEqual([label for label, row in self.asked_of(labelled, book)], [
            ("work", "b", 1), ("work", "b", -1), ("work", "a", 1), ("work", "a", -1), ("room", "saw", 0),
            ("least", "oil", 0), ("most", "oil", 0), ("least", "oil", 1), ("most", "oil", 1), ("after", "a", "b", 0),
            ("after", "a", "b", 1),
        ])

    def test_costs(self):
        book = [["days", 3], ["work", "a"], ["way", "a", "q", 1, 999999], ["way", "a", "r", 2, 0],
                ["late", "a", 1, 999999], ["work", "b"], ["way", "b", "q", 1, 4], ["way", "b", "r", 3, 5]]
        self.assertEqual(self.asked_of(problem_of, book)[1], (999999, 1999998, 2999997, 999999, 1999998, 4, 4, 4, 5))

    def test_great(self):
        # Sixty choices, and all rows that five works, three benches and two stores may have.
        book = [["days", 12]] + [["bench", name, 9] for name in "xyz"] + [["store", name, 9, 4] for name in "st"]
        for work in "abcde":
            book += [["work", work], ["way", work, "q", 1, 3], ["uses", work, "q", "y", 2], ["takes", work, "q", "t", 1]]
        book += [["after", *pair, 1] for pair in itertools.permutations("abcde", 2)]
        rows, costs = self.asked_of(problem_of, book)
        self.assertEqual([len(rows), len(costs)], [10 + 36 + 52 + 260, 60])
        self.assertEqual({len(numbers) for numbers, least in rows}, {60})


class Points(BookedCase):
    def test_every_form(self):
        for plan, point in (
            ({"a": ("q", 0), "b": ("q", 0)}, (1, 0, 0, 1, 0)), ({"a": ("q", 1), "b": ("q", 0)}, (0, 1, 0, 1, 0)),
            ({"a": ("s", 0), "b": ("q", 1)}, (0, 0, 1, 0, 1)), ({"b": ("q", 1), "a": ("q", 0)}, (1, 0, 0, 0, 1)),
        ):
            told = self.asked_of(point_of, BOOK, plan)
            self.assertEqual(told, point)
            self.assertEqual([type(told), {type(worth) for worth in told}], [tuple, {int}])
            told = self.asked_of(plan_of, BOOK, point)
            self.assertEqual(told, plan)
            self.assertEqual([type(told), {type(taken) for taken in told.values()}], [dict, {tuple}])

    def test_no_works(self):
        book = [["days", 2], ["bench", "saw", 2]]
        self.assertEqual(self.asked_of(point_of, book, {}), ())
        self.assertEqual(self.asked_of(plan_of, book, ()), {})

    def test_ways_of_one_name(self):
        book = [["days", 2], ["work", "a"], ["work", "b"], ["way", "b", "q", 1, 0], ["way", "a", "q", 1, 0]]
        self.assertEqual(self.asked_of(point_of, book, {"a": ("q", 0), "b": ("q", 1)}), (1, 0, 0, 1))
        self.assertEqual(self.asked_of(plan_of, book, (0, 1, 1, 0)), {"a": ("q", 1), "b": ("q", 0)})

    def test_all_plans_lead_to_points_and_back(self):
        chance = random.Random(11)
        for _ in range(200):
            book = some_book(chance, 24)
            there = choices(book)
            points = []
            for plan in plans_of(book):
                point = point_of(book, plan)
                self.assertEqual([there[place] for place, worth in enumerate(point) if worth],
                                 sorted([(work, *plan[work]) for work in plan], key=there.index))
                self.assertEqual(set(point) | {0, 1}, {0, 1})
                self.assertEqual(plan_of(book, point), plan)
                points.append(point)
            self.assertEqual(len(set(points)), len(points))


class SmallBooks(BookedCase):
    """The points that keep the problem are just the plans that are kept, at the same cost."""

    def assert_alike(self, book, points):
        problem = self.asked_of(problem_of, book)
        plans = [plan for plan in plans_of(book) if broken(book, plan) is None]
        self.assertEqual(sorted(point_of(book, plan) for plan in plans), points, book)
        for point in points:
            plan = self.asked_of(plan_of, book, point)
            self.assertIn(plan, plans)
            self.assertEqual(point_of(book, plan), point)
            self.assertEqual(cost_of(problem, point), cost_of_plan(book, plan))
        return len(plans)

    def test_all_points(self):
        chance = random.Random(12)
        counts = []
        for _ in range(300):
            book = some_book(chance, 7)
            problem = problem_of(book)
            points = itertools.product((0, 1), repeat=len(problem[1]))
            counts.append(self.assert_alike(book, [point for point in points if keeps(problem, point)]))
        self.assertGreater(len([count for count in counts if count > 1]), 30)
        self.assertGreater(counts.count(0), 30)

    def test_all_points_of_greater_books(self):
        chance = random.Random(13)
        counts = []
        for _ in range(150):
            book = some_book(chance, 12)
            problem = problem_of(book)
            counts.append(self.assert_alike(book, all_points(problem)))
            costs = [cost_of_plan(book, plan) for plan in plans_of(book) if broken(book, plan) is None]
            self.assertEqual(least_points(problem)[0], min(costs, default=None))
        self.assertGreater(len([count for count in counts if count > 1]), 20)

    def test_every_plan_keeps_or_breaks(self):
        # Of books with more choices all points are too many, but not all plans.
        chance = random.Random(14)
        for _ in range(150):
            book = some_book(chance, 24)
            problem = problem_of(book)
            for plan in plans_of(book):
                point = point_of(book, plan)
                self.assertEqual(keeps(problem, point), broken(book, plan) is None)
                self.assertEqual(cost_of(problem, point), cost_of_plan(book, plan))

    def test_labels_tell_what_is_broken(self):
        # The first row that a plan's point does not keep has the label of the first thing that breaks it.
        chance = random.Random(15)
        for _ in range(150):
            book = some_book(chance, 24)
            rows = labelled(book)
            for plan in plans_of(book):
                point = point_of(book, plan)
                wrong = [label for label, row in rows if not keeps(([row], ()), point)]
                asked = broken(book, plan)
                if asked is None:
                    self.assertEqual(wrong, [])
                elif asked[0] == "store":
                    self.assertIn(wrong[0], [("least", *asked[1:]), ("most", *asked[1:])])
                else:
                    self.assertEqual(wrong[0][:3], asked)


class Told(unittest.TestCase):
    ASKED = (
        (choices, ()), (labelled, ()), (problem_of, ()), (point_of, ({"a": ("q", 1), "b": ("q", 0)},)),
        (plan_of, ((0, 1, 0, 1, 0),)),
    )

    def emptied(self, thing):
        """Empties all lists and dicts within a thing."""
        if isinstance(thing, (tuple, list)):
            for part in thing:
                self.emptied(part)
        if isinstance(thing, (list, dict)):
            thing.clear()

    def test_changing_what_was_told_changes_nothing(self):
        for function, more in self.ASKED:
            book = copy.deepcopy(BOOK)
            told = function(book, *copy.deepcopy(more))
            asked = copy.deepcopy(told)
            self.emptied(told)
            self.assertEqual(book, BOOK)
            self.assertEqual(function(book, *copy.deepcopy(more)), asked)

    def test_changing_what_was_handed_in_behind(self):
        for function, more in self.ASKED:
            handed = copy.deepcopy((BOOK, *more))
            told = function(*handed)
            asked = copy.deepcopy(told)
            self.emptied(handed)
            self.assertEqual(told, asked)

    def test_nothing_is_remembered(self):
        book = copy.deepcopy(BOOK)
        for function in (choices, labelled, problem_of):
            function(book)
        book[0][1] = 3
        self.assertEqual(choices(book)[:3], [("a", "q", 0), ("a", "q", 1), ("a", "q", 2)])
        self.assertEqual(len(labelled(book)), 4 + 3 + 8 + 8)
        book[3][4] = 100
        self.assertEqual(problem_of(book)[1][:3], (100, 105, 110))


if __name__ == "__main__":
    unittest.main()
