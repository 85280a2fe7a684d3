"""The whole: a text is read, changed row by row at a desk and answered; its plan is drawn and seen, or its quarrel told."""

import copy
import itertools
import random
import unittest

from nonebetter.answers import answer_to
from nonebetter.booked import choices, labelled, plan_of, point_of, problem_of
from nonebetter.books import read, written
from nonebetter.changes import carried
from nonebetter.curves import curve, problem_by
from nonebetter.desk import Desk
from nonebetter.errors import NoBook, NoPicture, NoStep
from nonebetter.judge import judged, rows_told
from nonebetter.pictures import drawn, plan_seen
from nonebetter.plans import broken, cost_of_plan
from nonebetter.quarrels import quarrel_of
from nonebetter.rows import cost_of, keeps, kept
from nonebetter.shorter import shorter

TEXT = """days 4
bench saw 2
bench plane 1
store planks 8 3
work chair
way chair quick 1 60
way chair slow 2 35
uses chair quick saw 2
uses chair slow saw 1
takes chair quick planks 2
takes chair slow planks 2
work table
way table plain 2 40
uses table plain saw 1
uses table plain plane 1
takes table plain planks 1
late table 2 5
work sawing
way sawing all 1 10
uses sawing all saw 1
gives sawing all planks 3
"""


def plans_of(book):
    """All plans of a book, kept or broken."""
    works = [row[1] for row in book if row[0] == "work"]
    ways = [[(row[2], begin) for row in book if row[:2] == ["way", work] for begin in range(book[0][1] - row[3] + 1)]
            for work in works]
    return [dict(zip(works, taken)) for taken in itertools.product(*ways)]


def kept_plans(book):
    return [plan for plan in plans_of(book) if broken(book, plan) is None]


def some_row(chance, days):
    """A row that may stand in a small book; most of them do not behind all rows."""
    work, other, way = chance.choice("abc"), chance.choice("abc"), chance.choice("qr")
    bench, store = chance.choice("xy"), chance.choice("st")
    begin = chance.randrange(days)
    most = chance.randint(0, 5)
    return chance.choice((
        ["bench", bench, chance.randint(0, 5)], ["shut", bench, begin, chance.randint(begin + 1, days)],
        ["store", store, most, chance.randint(0, most)], ["work", work],
        ["way", work, way, chance.randint(1, days), chance.randint(0, 9)],
        ["way", work, way, chance.randint(1, days), chance.randint(0, 9)],
        ["uses", work, way, bench, chance.randint(1, 3)], ["uses", work, way, bench, chance.randint(1, 3)],
        ["takes", work, way, store, chance.randint(1, 3)], ["gives", work, way, store, chance.randint(1, 3)],
        ["after", work, other, chance.randint(0, 2)], ["late", work, chance.randint(0, days), chance.randint(1, 9)]))


class WholeCase(unittest.TestCase):
    def assert_answered(self, desk, earlier, costs):
        """The desk's answer and all that is made of it; costs are those of all plans that are kept."""
        book = desk.book()
        self.assertEqual(read(written(book)), book)
        told = desk.answer()
        word, plan, cost, paper, lines = told
        problem = problem_of(book)
        self.assertEqual(cost, min(costs, default=None))
        self.assertIsNone(judged(problem, cost, paper))
        self.assertEqual(word, "plan" if costs else "none")
        if word == "plan":
            self.assert_plan(book, plan, cost)
            self.assertIsNone(quarrel_of(book))
        else:
            self.assertIsNone(plan)
            self.assert_quarrel(book, problem)
        self.assert_lines(book, earlier, paper, lines)
        self.assertEqual(judged(problem, cost, shorter(problem, cost, paper)), None)
        # As good as that of beginning anew.
        self.assertEqual(answer_to(book)[2], cost)
        return told

    def assert_plan(self, book, plan, cost):
        self.assertIsNone(broken(book, plan))
        self.assertEqual(cost_of_plan(book, plan), cost)
        point = point_of(book, plan)
        self.assertTrue(keeps(problem_of(book), point))
        self.assertEqual(cost_of(problem_of(book), point), cost)
        self.assertEqual(plan_of(book, point), plan)
        text = drawn(book, plan)
        self.assertEqual(plan_seen(book, text), plan)
        with self.assertRaises(NoPicture) as caught:
            plan_seen(book, text + "\n")
        self.assertEqual(caught.exception.row, text.count("\n"))

    def assert_quarrel(self, book, problem):
        labels, paper, points = quarrel_of(book)
        rows = [row for label, row in labelled(book) if label in labels]
        self.assertEqual([label for label, row in labelled(book) if label in labels], labels)
        self.assertIsNone(judged((rows, problem[1]), None, paper))
        for number, point in enumerate(points):
            self.assertEqual([kept(row, point) for row in rows], [other != number for other in range(len(rows))])

    def assert_lines(self, book, earlier, paper, lines):
        if earlier is None or choices(book)[:len(choices(earlier[0]))] != choices(earlier[0]):
            self.assertIsNone(lines)
            return
        old, new = problem_of(earlier[0]), problem_of(book)
        self.assertEqual((paper[:len(carried(old, None, earlier[1], new, None)[0])], lines),
                         carried(old, None, earlier[1], new, None))
        # A line that is still there tells the row that it told.
        more = (0,) * (len(new[1]) - len(old[1]))
        rows = rows_told(new, None, paper[:len([place for place in lines if place is not None])])
        for line, place in enumerate(lines):
            if place is not None:
                numbers, least = rows_told(old, earlier[2], earlier[1][:line + 1])[line]
                self.assertEqual(rows[place], (numbers + more, least))

    def assert_curve(self, book):
        plans = kept_plans(book)
        lengths = {tuple(row[1:3]): row[3] for row in book if row[0] == "way"}
        for day, (cost, paper) in enumerate(curve(book)):
            ends = [[begin + lengths[work, way] for work, (way, begin) in plan.items()] for plan in plans]
            costs = [cost_of_plan(book, plan) for plan, days in zip(plans, ends) if max(days, default=0) <= day]
            self.assertEqual(cost, min(costs, default=None))
            self.assertIsNone(judged(problem_by(book, day), cost, paper))


class Whole(WholeCase):
    def test_a_text_read_and_changed(self):
        desk = Desk(read(TEXT))
        self.assertEqual(written(desk.book()), TEXT)
        told = desk.answer()
        self.assertEqual((told[0], told[2], told[4]), ("plan", 85, None))
        # Table is done on days 0 and 1, so as not to be late; chair, slow, needs two planks, and two are left.
        self.assertEqual(told[1]["table"], ("plain", 0))
        self.assertEqual(plan_seen(desk.book(), drawn(desk.book(), told[1])), told[1])
        self.assertEqual([pair[0] for pair in curve(desk.book())], [None, None, None, 85, 85])
        earlier = (desk.book(), told[3], told[2])

        # The saw is shut on the first day: table ends on day 3 at the earliest.
        desk.put_row(2, ["shut", "saw", 0, 1])
        told = self.assert_answered(desk, earlier, [90])
        self.assertEqual(drawn(desk.book(), told[1]).split("\n")[1], "table        .##. plain")
        self.assertEqual(desk.book()[2], ["shut", "saw", 0, 1])
        earlier = (desk.book(), told[3], told[2])

        # And on the last two: there is one day for works of one day at least and of two.
        desk.put_row(3, ["shut", "saw", 2, 4])
        told = self.assert_answered(desk, earlier, [])
        self.assertIn(("work", "table", 1), quarrel_of(desk.book())[0])
        earlier = (desk.book(), told[3], told[2])

        desk.back()
        told = self.assert_answered(desk, earlier, [90])
        self.assertIsNotNone(told[4])
        desk.back()
        self.assertEqual(written(desk.book()), TEXT)
        self.assertRaises(NoStep, desk.back)

    def test_a_picture_as_the_document_tells_it(self):
        book = read("days 4\nbench saw 2\nbench plane 12\nwork chair\nway chair slow 2 35\nuses chair slow saw 1\n"
                    "uses chair slow plane 10\nwork table\nway table plain 3 40\nuses table plain saw 1\nafter chair table 0\n"
                    "late table 0 1\n")
        self.assertEqual(answer_to(book)[0], "none")
        book[0][1] = 6
        told = answer_to(book)
        self.assertEqual(drawn(book, told[1]), "chair        ##.... slow\ntable        ..###. plain\n"
                                               "saw          010101010100\nplane        101000000000\n")

    def test_rows_put_in_one_by_one(self):
        # From the first row on; each answer is carried over from the one ahead.
        rows = read(TEXT)
        desk = Desk(rows[:1])
        earlier = None
        for place, row in enumerate(rows):
            if place > 0:
                desk.put_row(place, row)
            told = self.assert_answered(desk, earlier, [cost_of_plan(desk.book(), plan) for plan in kept_plans(desk.book())])
            earlier = (desk.book(), copy.deepcopy(told[3]), told[2])
        self.assertEqual((desk.book(), told[2]), (rows, 85))

    def test_rows_taken_out_one_by_one(self):
        desk = Desk(read(TEXT))
        earlier = None
        for place in range(len(desk.book()) - 1, 0, -1):
            desk.take_row(place)
            told = self.assert_answered(desk, earlier, [cost_of_plan(desk.book(), plan) for plan in kept_plans(desk.book())])
            earlier = (desk.book(), copy.deepcopy(told[3]), told[2])
        self.assertEqual(desk.book(), [["days", 4]])

    def test_books_by_chance(self):
        chance = random.Random(71)
        counts = {"plan": 0, "none": 0}
        for _ in range(20):
            days = chance.randint(1, 4)
            desk = Desk(read(f"days {days}\nwork a\nbench x 3\nway a q 1 {chance.randint(0, 9)}\nwork b\n"))
            earlier = None
            for _ in range(8):
                self.change(chance, desk, days)
                book = desk.book()
                told = self.assert_answered(desk, earlier, [cost_of_plan(book, plan) for plan in kept_plans(book)])
                counts[told[0]] += 1
                earlier = (book, copy.deepcopy(told[3]), told[2])
            self.assert_curve(book)
        self.assertGreater(min(counts.values()), 20, counts)

    def change(self, chance, desk, days):
        for _ in range(chance.randint(5, 20)):
            rows = len(desk.book())
            try:
                if chance.randrange(5):
                    desk.put_row(chance.choice((rows, chance.randint(0, rows))), some_row(chance, days))
                elif chance.randrange(3):
                    desk.take_row(chance.randrange(rows))
                else:
                    desk.back()
            except (NoBook, NoStep):
                pass
            if len(choices(desk.book())) > 24:
                desk.back()


class Interface(unittest.TestCase):
    """Everything that the document names is there under its name, with its arguments."""

    NAMES = {
        "ratios": ("divisor one other", "ratio top bottom", "plus one other", "times one other", "minus one other",
                   "over one other", "below one other"),
        "rows": ("kept row point", "keeps problem point", "cost_of problem point", "most_of row holds", "turned row turn",
                 "turn_keeps problem turn"),
        "judge": ("rows_told problem best paper", "judged problem best paper"),
        "passing": ("passed rows holds", "passed_lines problem best holds"),
        "corners": ("bound rows costs multipliers", "corner rows costs", "bound_lines problem best multipliers holds"),
        "shares": ("share rows times by", "share_lines problem best times by", "shares rows spread"),
        "likes": ("exchanges problem", "turn_from problem one other"),
        "knots": ("search problem deeds",),
        "shorter": ("rests_on paper", "shorter problem best paper"),
        "allpoints": ("all_points problem", "least_points problem"),
        "changes": ("changed problem change", "carried problem best paper other other_best", "search_on problem deeds paper"),
        "books": ("looked rows", "written book", "read text"),
        "plans": ("cost_of_plan book plan", "broken book plan"),
        "booked": ("choices book", "labelled book", "problem_of book", "point_of book plan", "plan_of book point"),
        "answers": ("answer_to book earlier",),
        "quarrels": ("quarrel problem", "quarrel_of book"),
        "pictures": ("drawn book plan", "plan_seen book text"),
        "curves": ("problem_by book day", "curve book"),
    }

    METHODS = ("__init__ self book", "book self", "put_row self place row", "take_row self place", "back self", "answer self")

    def assert_named(self, holder, names):
        name, *given = names.split(" ")
        code = getattr(holder, name).__code__
        self.assertEqual(list(code.co_varnames[:code.co_argcount]), given, name)

    def test_functions(self):
        for module, functions in self.NAMES.items():
            held = __import__("nonebetter." + module, fromlist=["x"])
            for names in functions:
                self.assert_named(held, names)

    def test_the_desk(self):
        for names in self.METHODS:
            self.assert_named(Desk, names)


if __name__ == "__main__":
    unittest.main()
