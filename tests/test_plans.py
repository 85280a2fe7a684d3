"""Plans: what they cost, and what breaks them."""

import copy
import itertools
import random
import unittest

from nonebetter.books import looked
from nonebetter.plans import broken, cost_of_plan

# Two works; chair has two ways, and is late behind day 3.
WAYS = [
    ["days", 6],
    ["work", "chair"],
    ["way", "chair", "quick", 1, 50],
    ["way", "chair", "slow", 3, 20],
    ["work", "table"],
    ["way", "table", "quick", 2, 7],
    ["late", "chair", 3, 10],
]

# A book with rows of every form.
BOOK = [
    ["days", 5],
    ["bench", "saw", 3],
    ["shut", "saw", 3, 4],
    ["store", "planks", 9, 4],
    ["work", "chair"],
    ["way", "chair", "quick", 2, 150],
    ["uses", "chair", "quick", "saw", 2],
    ["takes", "chair", "quick", "planks", 4],
    ["gives", "chair", "quick", "planks", 1],
    ["work", "table"],
    ["way", "table", "quick", 1, 0],
    ["uses", "table", "quick", "saw", 2],
    ["way", "table", "slow", 5, 3],
    ["after", "chair", "table", 0],
    ["late", "chair", 3, 10],
]
KEPT = {"chair": ("quick", 0), "table": ("quick", 4)}

# What may stand in the place of (way, begin) for a work whose only way is "quick", and is not as told on any day.
STRANGE = (
    None, True, False, 0, 1, -1, "", "quick", "quick 0", (), [], ("quick",), (0,), ("quick", 0, 0), ("quick", 0, "quick"),
    ["quick", 0], [("quick", 0)], (("quick", 0),), [["quick", 0]], (0, "quick"), (0, 0), ("quick", "0"), ("quick", ""),
    ("quick", None), ("quick", True), ("quick", False), ("quick", (0,)), ("quick", [0]), ("quick", "quick"),
    ("quick", ()), ("quick", []), ("quick", -1), ("quick", -2), ("quick", -10 ** 30), ("quick", 10 ** 30),
    (["quick"], 0), ([], 0), (("quick",), 0), ((["quick"],), 0), ((), 0), (None, 0), (True, 0), (False, 0), (1, 0),
    ("", 0), ("Quick", 0), ("quick ", 0), ("quic", 0), ("way", 0), ("work", 0), ("chair", 0), ("table", 0),
)


def with_rows(book, *rows):
    return copy.deepcopy(book) + [list(row) for row in rows]


def first_broken(book, plan):
    """By the words of point 24, row by row of the book and day by day."""
    days = book[0][1]
    lengths = {(row[1], row[2]): row[3] for row in book if row[0] == "way"}
    works = [row[1] for row in book if row[0] == "work"]
    for work in works:
        thing = plan.get(work)
        if type(thing) is not tuple or [type(part) for part in thing] != [str, int]:
            return ("work", work)
        if (work, thing[0]) not in lengths or thing[1] not in range(days) or thing[1] + lengths[work, thing[0]] > days:
            return ("work", work)
    if set(plan) != set(works):
        return ("work", min(set(plan) - set(works)))
    spans = {work: range(plan[work][1], plan[work][1] + lengths[work, plan[work][0]]) for work in works}
    rows = [row for row in book if row[0] not in ("uses", "takes", "gives") or plan[row[1]][0] == row[2]]
    for bench in [row for row in book if row[0] == "bench"]:
        for day in range(days):
            used = sum(row[4] for row in rows if row[0] == "uses" and row[3] == bench[1] and day in spans[row[1]])
            is_shut = any(row[:2] == ["shut", bench[1]] and day in range(row[2], row[3]) for row in rows)
            if used > (0 if is_shut else bench[2]):
                return ("room", bench[1], day)
    for store in [row for row in book if row[0] == "store"]:
        there = store[3]
        for day in range(days + 1):
            there -= sum(row[4] for row in rows if row[0] == "takes" and row[3] == store[1] and spans[row[1]][0] == day)
            there += sum(
                row[4] for row in rows if row[0] == "gives" and row[3] == store[1] and spans[row[1]][-1] == day - 1)
            if there < 0 or there > store[2]:
                return ("store", store[1], day)
    for row in rows:
        if row[0] == "after" and spans[row[2]][0] - spans[row[1]][-1] - 1 < row[3]:
            return ("after", row[1], row[2])
    return None


def cost_by_words(book, plan):
    """By the words of points 21 and 23."""
    cost = 0
    for row in book:
        if row[0] == "way" and plan[row[1]][0] == row[2]:
            cost += row[4]
            end = plan[row[1]][1] + row[3]
            for late in book:
                if late[:2] == ["late", row[1]]:
                    cost += sum(late[3] for day in range(late[2] + 1, end + 1))
    return cost


def some_book(chance):
    """A small book, its rows mingled as far as a book's may be."""
    days = chance.randint(1, 4)
    works, benches, stores = ("a", "b", "c")[:chance.randint(1, 3)], ("x", "y")[:chance.randint(0, 2)], ("s", "t")
    stores = stores[:chance.randint(0, 2)]
    rows = [["bench", bench, chance.randint(0, 4)] for bench in benches] + [["work", work] for work in works]
    for store in stores:
        most = chance.randint(0, 5)
        rows.append(["store", store, most, chance.randint(0, most)])
    for bench in benches:
        for _ in range(chance.choice((0, 0, 1, 2))):
            begin = chance.randrange(days)
            rows.append(["shut", bench, begin, chance.randint(begin + 1, days)])
    for work in works:
        for way in ("q", "r")[:chance.choice((1, 2, 2))]:
            rows.append(["way", work, way, chance.randint(1, days), chance.randint(0, 9)])
            rows += [["uses", work, way, bench, chance.randint(1, 3)] for bench in benches if chance.randrange(2)]
            for word, store in itertools.product(("takes", "gives"), stores):
                if chance.randrange(2):
                    rows.append([word, work, way, store, chance.randint(1, 3)])
        if chance.randrange(2):
            rows.append(["late", work, chance.randint(0, days), chance.randint(1, 9)])
    for pair in itertools.permutations(works, 2):
        if chance.randrange(4) == 0:
            rows.append(["after", *pair, chance.choice((0, 0, 1, chance.randint(0, days)))])
    chance.shuffle(rows)
    # Names ahead of what names them.
    rank = {"bench": 0, "store": 0, "work": 0, "way": 1, "shut": 1, "late": 1, "after": 1}
    book = [["days", days]] + sorted(rows, key=lambda row: rank.get(row[0], 2))
    looked(book)
    return book


def plans_of(book):
    """All plans of a book, kept or broken."""
    works = [row[1] for row in book if row[0] == "work"]
    ways = [[(row[2], begin) for row in book if row[:2] == ["way", work] for begin in range(book[0][1] - row[3] + 1)]
            for work in works]
    return [dict(zip(works, taken)) for taken in itertools.product(*ways)]


class PlanCase(unittest.TestCase):
    def assert_cost(self, book, plan, cost):
        looked(book)
        ahead = copy.deepcopy((book, plan))
        told = cost_of_plan(book, plan)
        self.assertEqual(told, cost, (book, plan))
        self.assertIs(type(told), int)
        self.assertEqual((book, plan), ahead)

    def assert_broken(self, book, plan, asked):
        looked(book)
        ahead = copy.deepcopy((book, plan))
        told = broken(book, plan)
        self.assertEqual(told, asked, (book, plan))
        self.assertIs(type(told), type(asked))
        if told is not None:
            self.assertEqual([type(part) for part in told], [type(part) for part in asked])
        self.assertEqual((book, plan), ahead)
        self.assertEqual(list(plan), list(ahead[1]))


class Costs(PlanCase):
    def test_ways(self):
        for begin in range(3):
            self.assert_cost(WAYS, {"chair": ("quick", begin), "table": ("quick", 0)}, 57)
        self.assert_cost(WAYS, {"chair": ("slow", 0), "table": ("quick", 4)}, 27)

    def test_late(self):
        for begin, late in enumerate((0, 0, 0, 1, 2, 3)):
            self.assert_cost(WAYS, {"chair": ("quick", begin), "table": ("quick", begin % 5)}, 57 + 10 * late)
        for begin, late in enumerate((0, 1, 2, 3)):
            self.assert_cost(WAYS, {"chair": ("slow", begin), "table": ("quick", 1)}, 27 + 10 * late)

    def test_late_from_the_first_day_and_never(self):
        book = [["days", 3], ["work", "a"], ["way", "a", "q", 1, 5], ["way", "a", "r", 3, 1]]
        for begin in range(3):
            self.assert_cost(with_rows(book, ["late", "a", 0, 100]), {"a": ("q", begin)}, 105 + 100 * begin)
            self.assert_cost(with_rows(book, ["late", "a", 3, 100]), {"a": ("q", begin)}, 5)
        self.assert_cost(with_rows(book, ["late", "a", 0, 100]), {"a": ("r", 0)}, 301)
        self.assert_cost(with_rows(book, ["late", "a", 3, 100]), {"a": ("r", 0)}, 1)

    def test_without_late(self):
        for begin in range(6):
            self.assert_cost(WAYS[:-1], {"chair": ("quick", begin), "table": ("quick", 4)}, 57)

    def test_several_late(self):
        book = with_rows(WAYS, ["late", "table", 2, 1])
        self.assert_cost(book, {"chair": ("quick", 5), "table": ("quick", 4)}, 57 + 30 + 4)
        self.assert_cost(book, {"table": ("quick", 1), "chair": ("slow", 1)}, 27 + 10 + 1)

    def test_late_ahead_of_the_ways(self):
        book = [["days", 4], ["work", "a"], ["late", "a", 1, 3], ["way", "a", "q", 2, 0], ["way", "a", "r", 1, 8]]
        self.assert_cost(book, {"a": ("q", 0)}, 3)
        self.assert_cost(book, {"a": ("q", 2)}, 9)
        self.assert_cost(book, {"a": ("r", 0)}, 8)
        self.assert_cost(book, {"a": ("r", 3)}, 17)

    def test_ways_of_the_same_name(self):
        book = [["days", 2], ["work", "q"], ["work", "b"], ["way", "b", "q", 1, 4], ["way", "q", "q", 2, 9],
                ["way", "q", "b", 1, 30], ["way", "b", "b", 1, 500]]
        self.assert_cost(book, {"q": ("q", 0), "b": ("q", 0)}, 13)
        self.assert_cost(book, {"q": ("b", 0), "b": ("q", 1)}, 34)
        self.assert_cost(book, {"q": ("b", 0), "b": ("b", 1)}, 530)

    def test_no_works(self):
        self.assert_cost([["days", 1]], {}, 0)
        self.assert_cost([["days", 12], ["bench", "saw", 9], ["store", "planks", 5, 5]], {}, 0)

    def test_great_costs(self):
        book, plan = [["days", 12]], {}
        for work in ("a", "b", "c", "d", "e"):
            book += [["work", work], ["way", work, "q", 1, 999999], ["late", work, 0, 999999]]
            plan[work] = ("q", 11)
        self.assert_cost(book, plan, 5 * 13 * 999999)

    def test_broken_plans_cost_too(self):
        self.assert_cost(BOOK, {"chair": ("quick", 3), "table": ("quick", 0)}, 150 + 20)
        self.assert_cost(BOOK, {"table": ("slow", 0), "chair": ("quick", 2)}, 150 + 10 + 3)

    def test_all_plans_of_small_books(self):
        chance = random.Random(1)
        for _ in range(150):
            book = some_book(chance)
            for plan in plans_of(book):
                self.assert_cost(book, plan, cost_by_words(book, plan))


class Works(PlanCase):
    ONE = [["days", 4], ["work", "a"], ["way", "a", "quick", 2, 5]]
    THREE = [
        ["days", 4], ["work", "b"], ["way", "b", "quick", 2, 5], ["work", "c"], ["work", "a"],
        ["way", "a", "quick", 1, 5], ["way", "c", "quick", 4, 5], ["way", "a", "slow", 3, 5],
    ]
    RIGHT = {"a": ("quick", 0), "b": ("quick", 0), "c": ("quick", 0)}

    def test_kept(self):
        self.assert_broken(BOOK, KEPT, None)
        self.assert_broken([["days", 1]], {}, None)
        for begin in range(3):
            self.assert_broken(self.ONE, {"a": ("quick", begin)}, None)
        self.assert_broken(self.THREE, self.RIGHT, None)
        self.assert_broken(self.THREE, {"a": ("slow", 1), "c": ("quick", 0), "b": ("quick", 2)}, None)

    def test_lacking(self):
        self.assert_broken(self.ONE, {}, ("work", "a"))
        self.assert_broken(self.THREE, {}, ("work", "b"))
        for work in self.RIGHT:
            plan = {other: self.RIGHT[other] for other in self.RIGHT if other != work}
            self.assert_broken(self.THREE, plan, ("work", work))
        self.assert_broken(self.THREE, {"b": ("quick", 0)}, ("work", "c"))

    def test_another(self):
        for other in ("", "A", "aa", "b", "zzz", "days", "work", "quick", "a ", "1", "ä", " "):
            for thing in (("quick", 0), None, ("other", 7)):
                self.assert_broken(self.ONE, {"a": ("quick", 0), other: thing}, ("work", other))
                self.assert_broken(self.ONE, {other: thing, "a": ("quick", 0)}, ("work", other))
                self.assert_broken([["days", 4]], {other: thing}, ("work", other))

    def test_several_others(self):
        others = ["e", "B", "d", "", "dd", "~", "ä", "é", "C"]
        chance = random.Random(2)
        while others:
            plan = dict(self.RIGHT)
            plan.update({other: ("quick", 0) for other in others})
            keys = list(plan)
            chance.shuffle(keys)
            self.assert_broken(self.THREE, {key: plan[key] for key in keys}, ("work", min(others)))
            others.remove(min(others))

    def test_others_behind_the_works_of_the_book(self):
        self.assert_broken(self.ONE, {"": ("quick", 0)}, ("work", "a"))
        self.assert_broken(self.ONE, {"": ("quick", 0), "a": ("quick", 3)}, ("work", "a"))
        plan = dict(self.RIGHT, A=("quick", 0), a=None)
        self.assert_broken(self.THREE, plan, ("work", "a"))

    def test_things_of_every_kind(self):
        for thing in STRANGE:
            self.assert_broken(self.ONE, {"a": thing}, ("work", "a"))
            for work in self.RIGHT:
                self.assert_broken(self.THREE, {**self.RIGHT, work: thing}, ("work", work))

    def test_a_way_of_another_work(self):
        self.assert_broken(self.THREE, {**self.RIGHT, "b": ("slow", 0)}, ("work", "b"))
        self.assert_broken(self.THREE, {**self.RIGHT, "c": ("slow", 0)}, ("work", "c"))
        self.assert_broken(self.THREE, {**self.RIGHT, "a": ("slow", 0)}, None)

    def test_names_of_other_rows_are_no_ways(self):
        book = with_rows(self.ONE, ["bench", "saw", 9], ["uses", "a", "quick", "saw", 1], ["late", "a", 1, 1])
        for name in ("saw", "a", "late", "uses", "way"):
            self.assert_broken(book, {"a": (name, 0)}, ("work", "a"))

    def test_ends_too_late(self):
        self.assert_broken(self.ONE, {"a": ("quick", 2)}, None)
        for begin in (3, 4, 5, 100):
            self.assert_broken(self.ONE, {"a": ("quick", begin)}, ("work", "a"))
        self.assert_broken(self.THREE, {**self.RIGHT, "c": ("quick", 1)}, ("work", "c"))
        self.assert_broken(self.THREE, {**self.RIGHT, "a": ("quick", 3)}, None)
        self.assert_broken(self.THREE, {**self.RIGHT, "a": ("quick", 4)}, ("work", "a"))
        self.assert_broken(self.THREE, {**self.RIGHT, "a": ("slow", 2)}, ("work", "a"))

    def test_truths(self):
        # As numbers they would be days on which the work may begin.
        for truth in (True, False):
            self.assert_broken(self.ONE, {"a": ("quick", truth)}, ("work", "a"))

    def test_a_work_without_a_way(self):
        book = [["days", 4], ["work", "a"], ["work", "b"], ["way", "b", "quick", 1, 1]]
        for thing in STRANGE + (("quick", 0),):
            self.assert_broken(book, {"a": thing, "b": ("quick", 0)}, ("work", "a"))
        self.assert_broken(book, {"b": ("quick", 0)}, ("work", "a"))

    def test_the_first_in_the_order_of_the_book(self):
        works = ("b", "c", "a")
        for wrong in itertools.product((None, "lacking", ("quick", -1)), repeat=3):
            for order in itertools.permutations(range(3)):
                plan = {}
                for place in order:
                    if wrong[place] != "lacking":
                        plan[works[place]] = wrong[place] or self.RIGHT[works[place]]
                asked = [("work", work) for work, thing in zip(works, wrong) if thing is not None]
                self.assert_broken(self.THREE, plan, asked[0] if asked else None)


class Benches(PlanCase):
    def book(self, room, *rows):
        return with_rows([
            ["days", 3], ["bench", "saw", room], ["work", "a"], ["work", "b"], ["way", "a", "q", 2, 0],
            ["way", "b", "q", 1, 0], ["uses", "a", "q", "saw", 2], ["uses", "b", "q", "saw", 3]], *rows)

    def plan(self, a, b):
        return {"a": ("q", a), "b": ("q", b)}

    def test_just_the_room(self):
        for a, b in itertools.product(range(2), range(3)):
            self.assert_broken(self.book(5), self.plan(a, b), None)
            self.assert_broken(self.book(99), self.plan(a, b), None)

    def test_more_than_the_room(self):
        for b, asked in enumerate((("room", "saw", 0), ("room", "saw", 1), None)):
            self.assert_broken(self.book(4), self.plan(0, b), asked)
            self.assert_broken(self.book(3), self.plan(0, b), asked)
        for b, asked in enumerate((None, ("room", "saw", 1), ("room", "saw", 2))):
            self.assert_broken(self.book(4), self.plan(1, b), asked)

    def test_one_work_alone(self):
        self.assert_broken(self.book(2), self.plan(0, 2), ("room", "saw", 2))
        self.assert_broken(self.book(2), self.plan(1, 0), ("room", "saw", 0))
        self.assert_broken(self.book(1), self.plan(1, 2), ("room", "saw", 1))
        self.assert_broken(self.book(1), self.plan(1, 0), ("room", "saw", 0))

    def test_no_room(self):
        self.assert_broken(self.book(0), self.plan(1, 2), ("room", "saw", 1))
        self.assert_broken(self.book(0), self.plan(0, 2), ("room", "saw", 0))
        idle = [["days", 2], ["bench", "saw", 0], ["shut", "saw", 0, 2], ["work", "a"], ["way", "a", "q", 2, 0]]
        self.assert_broken(idle, {"a": ("q", 0)}, None)
        self.assert_broken(idle[:3], {}, None)

    def test_shut(self):
        book = self.book(9, ["shut", "saw", 1, 2])
        self.assert_broken(book, self.plan(0, 0), ("room", "saw", 1))
        self.assert_broken(book, self.plan(1, 0), ("room", "saw", 1))
        alone = [row for row in book if "a" not in row[:2]]
        for begin, asked in enumerate((None, ("room", "saw", 1), None)):
            self.assert_broken(alone, {"b": ("q", begin)}, asked)

    def test_shut_from_and_to(self):
        alone = [row for row in self.book(9) if "a" not in row[:2]]
        for begin in range(3):
            for end in range(begin + 1, 4):
                for day in range(3):
                    asked = ("room", "saw", day) if begin <= day < end else None
                    self.assert_broken(with_rows(alone, ["shut", "saw", begin, end]), {"b": ("q", day)}, asked)

    def test_several_shut_rows(self):
        alone = [row for row in self.book(9, ["shut", "saw", 2, 3], ["shut", "saw", 0, 1]) if "a" not in row[:2]]
        for begin, asked in enumerate((("room", "saw", 0), None, ("room", "saw", 2))):
            self.assert_broken(alone, {"b": ("q", begin)}, asked)
        alone += [["shut", "saw", 0, 2], ["shut", "saw", 0, 1], ["shut", "saw", 1, 3]]
        for begin in range(3):
            self.assert_broken(alone, {"b": ("q", begin)}, ("room", "saw", begin))

    def test_shut_is_another_bench(self):
        book = self.book(5, ["bench", "plane", 5], ["shut", "plane", 0, 3])
        for a, b in itertools.product(range(2), range(3)):
            self.assert_broken(book, self.plan(a, b), None)

    def test_only_the_way_that_is_taken_counts(self):
        book = self.book(3, ["way", "a", "r", 3, 0], ["uses", "a", "r", "saw", 1])
        self.assert_broken(book, {"a": ("r", 0), "b": ("q", 1)}, ("room", "saw", 1))
        self.assert_broken(book[:-1], {"a": ("r", 0), "b": ("q", 1)}, None)

    def test_benches_then_days(self):
        book = [["days", 2], ["bench", "z", 1], ["bench", "y", 1], ["work", "a"], ["work", "b"]]
        for work in ("a", "b"):
            for way in ("q", "r"):
                book.append(["way", work, way, 1, 0])
            book += [["uses", work, "q", "y", 1 + (work == "b")], ["uses", work, "r", "z", 1 + (work == "b")]]
        # y breaks on day 0, z on day 1: z stands first in the book.
        plan = {"a": ("r", 1), "b": ("r", 1)}
        self.assert_broken(book, plan, ("room", "z", 1))
        self.assert_broken(book, {"a": ("q", 0), "b": ("q", 0)}, ("room", "y", 0))
        both = with_rows(book, ["way", "a", "s", 2, 0], ["uses", "a", "s", "y", 2])
        self.assert_broken(both, {"a": ("s", 0), "b": ("r", 1)}, ("room", "z", 1))
        self.assert_broken(both, {"a": ("s", 0), "b": ("r", 0)}, ("room", "z", 0))
        self.assert_broken(both, {"a": ("s", 0), "b": ("q", 1)}, ("room", "y", 0))
        self.assert_broken(both[:2] + [["bench", "y", 2]] + both[3:], {"a": ("s", 0), "b": ("q", 1)}, ("room", "y", 1))


class Stores(PlanCase):
    def book(self, most, first, *rows):
        return with_rows([
            ["days", 3], ["store", "oil", most, first], ["work", "a"], ["work", "b"], ["way", "a", "q", 1, 0],
            ["way", "b", "q", 2, 0]], *rows)

    def plan(self, a, b):
        return {"a": ("q", a), "b": ("q", b)}

    def test_taken_on_the_day_of_the_beginning(self):
        rows = (["takes", "b", "q", "oil", 4],)
        for begin in range(2):
            self.assert_broken(self.book(9, 4, *rows), self.plan(0, begin), None)
            self.assert_broken(self.book(9, 3, *rows), self.plan(0, begin), ("store", "oil", begin))
        rows = (["takes", "a", "q", "oil", 4],)
        for begin in range(3):
            self.assert_broken(self.book(9, 3, *rows), self.plan(begin, 0), ("store", "oil", begin))

    def test_given_on_the_day_of_the_end(self):
        rows = (["gives", "b", "q", "oil", 4],)
        for begin in range(2):
            self.assert_broken(self.book(9, 5, *rows), self.plan(0, begin), None)
            self.assert_broken(self.book(9, 6, *rows), self.plan(0, begin), ("store", "oil", begin + 2))
        rows = (["gives", "a", "q", "oil", 4],)
        for begin in range(3):
            self.assert_broken(self.book(9, 6, *rows), self.plan(begin, 0), ("store", "oil", begin + 1))

    def test_taken_and_given_by_one_work(self):
        for begin in range(2):
            book = self.book(4, 2, ["takes", "b", "q", "oil", 2], ["gives", "b", "q", "oil", 4])
            self.assert_broken(book, self.plan(0, begin), None)
            book = self.book(4, 2, ["takes", "b", "q", "oil", 2], ["gives", "b", "q", "oil", 5])
            self.assert_broken(book, self.plan(0, begin), ("store", "oil", begin + 2))
            book = self.book(4, 2, ["takes", "b", "q", "oil", 3], ["gives", "b", "q", "oil", 9])
            self.assert_broken(book, self.plan(0, begin), ("store", "oil", begin))

    def test_given_and_taken_on_the_same_day(self):
        book = self.book(3, 0, ["gives", "a", "q", "oil", 3], ["takes", "b", "q", "oil", 3])
        self.assert_broken(book, self.plan(0, 1), None)
        self.assert_broken(book, self.plan(1, 1), ("store", "oil", 1))
        self.assert_broken(book, self.plan(0, 0), ("store", "oil", 0))
        book = self.book(3, 3, ["takes", "a", "q", "oil", 3], ["gives", "b", "q", "oil", 3])
        self.assert_broken(book, self.plan(2, 0), None)
        self.assert_broken(book, self.plan(0, 1), None)
        self.assert_broken(book, self.plan(1, 0), None)
        self.assert_broken(book[:1] + [["store", "oil", 3, 2]] + book[2:], self.plan(1, 0), ("store", "oil", 1))

    def test_too_full_for_a_while(self):
        book = self.book(5, 3, ["gives", "a", "q", "oil", 3], ["takes", "b", "q", "oil", 3])
        self.assert_broken(book, self.plan(0, 1), None)
        self.assert_broken(book, self.plan(0, 0), None)
        book = self.book(5, 3, ["gives", "b", "q", "oil", 3], ["takes", "a", "q", "oil", 3])
        self.assert_broken(book, self.plan(2, 0), None)
        book = with_rows(book[:4] + [["way", "a", "q", 1, 0], ["way", "b", "q", 1, 0]] + book[6:])
        self.assert_broken(book, self.plan(2, 0), ("store", "oil", 1))
        self.assert_broken(book, self.plan(1, 0), None)

    def test_several_works_of_one_day(self):
        rows = (["takes", "a", "q", "oil", 2], ["takes", "b", "q", "oil", 3])
        self.assert_broken(self.book(9, 5, *rows), self.plan(1, 1), None)
        self.assert_broken(self.book(9, 4, *rows), self.plan(1, 1), ("store", "oil", 1))
        self.assert_broken(self.book(9, 4, *rows), self.plan(2, 1), ("store", "oil", 2))
        self.assert_broken(self.book(9, 4, *rows), self.plan(0, 1), ("store", "oil", 1))
        rows = (["gives", "a", "q", "oil", 2], ["gives", "b", "q", "oil", 3])
        self.assert_broken(self.book(9, 4, *rows), self.plan(1, 0), None)
        self.assert_broken(self.book(9, 5, *rows), self.plan(1, 0), ("store", "oil", 2))
        self.assert_broken(self.book(9, 5, *rows), self.plan(2, 1), ("store", "oil", 3))

    def test_first_at_its_bounds(self):
        for most in (0, 1, 999):
            for first in (0, most):
                self.assert_broken(self.book(most, first), self.plan(0, 0), None)
        self.assert_broken(self.book(999, 999, ["gives", "a", "q", "oil", 1]), self.plan(1, 0), ("store", "oil", 2))
        self.assert_broken(self.book(999, 998, ["gives", "a", "q", "oil", 1]), self.plan(1, 0), None)
        self.assert_broken(self.book(999, 0, ["takes", "a", "q", "oil", 1]), self.plan(1, 0), ("store", "oil", 1))
        self.assert_broken(self.book(999, 1, ["takes", "a", "q", "oil", 1]), self.plan(1, 0), None)
        self.assert_broken(self.book(0, 0, ["takes", "a", "q", "oil", 1]), self.plan(2, 0), ("store", "oil", 2))
        self.assert_broken(self.book(0, 0, ["gives", "a", "q", "oil", 1]), self.plan(2, 0), ("store", "oil", 3))

    def test_on_the_end(self):
        self.assert_broken(self.book(5, 5, ["gives", "a", "q", "oil", 1]), self.plan(2, 0), ("store", "oil", 3))
        self.assert_broken(self.book(5, 5, ["gives", "b", "q", "oil", 1]), self.plan(2, 1), ("store", "oil", 3))

    def test_only_the_way_that_is_taken_counts(self):
        book = self.book(9, 0, ["way", "a", "r", 1, 0], ["takes", "a", "r", "oil", 1], ["gives", "b", "q", "oil", 1])
        self.assert_broken(book, self.plan(0, 0), None)
        self.assert_broken(book, {"a": ("r", 1), "b": ("q", 0)}, ("store", "oil", 1))
        self.assert_broken(book, {"a": ("r", 2), "b": ("q", 0)}, None)

    def test_stores_then_days(self):
        book = self.book(9, 0, ["store", "air", 9, 0], ["takes", "a", "q", "oil", 1], ["takes", "b", "q", "air", 1])
        self.assert_broken(book, self.plan(2, 0), ("store", "oil", 2))
        self.assert_broken(book, self.plan(0, 1), ("store", "oil", 0))
        self.assert_broken(book[:1] + [["store", "oil", 9, 1]] + book[2:], self.plan(2, 1), ("store", "air", 1))

    def test_benches_and_stores_of_one_name(self):
        book = self.book(9, 4, ["bench", "oil", 2], ["uses", "a", "q", "oil", 2], ["takes", "a", "q", "oil", 4])
        self.assert_broken(book, self.plan(0, 0), None)
        self.assert_broken(with_rows(book, ["uses", "b", "q", "oil", 2]), self.plan(0, 0), ("room", "oil", 0))
        self.assert_broken(with_rows(book, ["takes", "b", "q", "oil", 2]), self.plan(0, 0), ("store", "oil", 0))


class Afters(PlanCase):
    def book(self, *rows):
        return with_rows([
            ["days", 5], ["work", "a"], ["work", "b"], ["work", "c"], ["way", "a", "q", 2, 0], ["way", "b", "q", 1, 0],
            ["way", "c", "q", 1, 0], ["way", "a", "r", 1, 0]], *rows)

    def plan(self, a, b, c):
        return {"a": ("q", a), "b": ("q", b), "c": ("q", c)}

    def test_gaps(self):
        for gap in range(6):
            book = self.book(["after", "a", "b", gap])
            for a, b in itertools.product(range(4), range(5)):
                asked = None if b >= a + 2 + gap else ("after", "a", "b")
                self.assert_broken(book, self.plan(a, b, 0), asked)
        self.assert_broken(self.book(["after", "a", "b", 1]), {**self.plan(0, 2, 0), "a": ("r", 0)}, None)
        self.assert_broken(self.book(["after", "a", "b", 1]), self.plan(0, 2, 0), ("after", "a", "b"))

    def test_the_other_way_round(self):
        for gap in range(6):
            book = self.book(["after", "b", "a", gap])
            for a, b in itertools.product(range(4), range(5)):
                self.assert_broken(book, self.plan(a, b, 0), None if a >= b + 1 + gap else ("after", "b", "a"))

    def test_several(self):
        one, two, three = ["after", "c", "b", 0], ["after", "a", "b", 1], ["after", "b", "c", 0]
        for rows in itertools.permutations((one, two, three)):
            for a, b, c in itertools.product(range(4), range(5), range(5)):
                wrong = {("after", "c", "b"): b < c + 1, ("after", "a", "b"): b < a + 3, ("after", "b", "c"): c < b + 1}
                asked = [tuple(row[:3]) for row in rows if wrong[tuple(row[:3])]]
                # One of them is always broken: none of two works is behind the other one and ahead of it.
                self.assert_broken(self.book(*rows), self.plan(a, b, c), asked[0])

    def test_mingled(self):
        book = [["days", 2], ["work", "a"], ["way", "a", "q", 1, 0], ["work", "b"], ["after", "b", "a", 0],
                ["way", "b", "q", 1, 0]]
        self.assert_broken(book, {"a": ("q", 1), "b": ("q", 0)}, None)
        self.assert_broken(book, {"a": ("q", 0), "b": ("q", 1)}, ("after", "b", "a"))


class Order(PlanCase):
    """Works, benches, stores, works behind others; whatever the order of their rows in the book is."""

    def rows(self, room, first, gap):
        return [
            ["days", 3], ["work", "a"], ["work", "b"], ["after", "a", "b", gap], ["way", "a", "q", 1, 0],
            ["way", "b", "q", 1, 0], ["store", "oil", 9, first], ["takes", "a", "q", "oil", 2], ["bench", "saw", room],
            ["uses", "b", "q", "saw", 2],
        ]

    def test_the_first_kind(self):
        plan = {"a": ("q", 0), "b": ("q", 1)}
        for room, first, gap in itertools.product((1, 2), (1, 2), (0, 1)):
            asked = None if gap == 0 else ("after", "a", "b")
            asked = asked if first == 2 else ("store", "oil", 0)
            asked = asked if room == 2 else ("room", "saw", 1)
            self.assert_broken(self.rows(room, first, gap), plan, asked)
            self.assert_broken(self.rows(room, first, gap), {**plan, "c": ("q", 0)}, ("work", "c"))
            self.assert_broken(self.rows(room, first, gap), {**plan, "b": ("q", 3)}, ("work", "b"))

    def test_book_with_rows_of_every_form(self):
        self.assert_broken(BOOK, {"chair": ("quick", 0), "table": ("slow", 0)}, ("after", "chair", "table"))
        self.assert_broken(BOOK, {"chair": ("quick", 0), "table": ("quick", 3)}, ("room", "saw", 3))
        self.assert_broken(BOOK, {"chair": ("quick", 0), "table": ("quick", 1)}, ("room", "saw", 1))
        self.assert_broken(BOOK, {"chair": ("quick", 1), "table": ("quick", 0)}, ("after", "chair", "table"))

    def test_all_plans_of_small_books(self):
        chance = random.Random(3)
        seen = {}
        for _ in range(400):
            book = some_book(chance)
            for plan in plans_of(book):
                asked = first_broken(book, plan)
                self.assert_broken(book, plan, asked)
                word = asked and asked[0]
                seen[word] = seen.get(word, 0) + 1
        self.assertGreater(min(seen[word] for word in (None, "room", "store", "after")), 300)

    def test_plans_that_are_none(self):
        chance = random.Random(4)
        for _ in range(400):
            book = some_book(chance)
            plan = dict(chance.choice(plans_of(book)))
            for _ in range(chance.randint(1, 2)):
                work = chance.choice(("a", "b", "c", "d", ""))
                things = (None, "lacking", ("q", 0), ("r", 1), ("q", chance.randint(-1, 5)), ("r", True), ["q", 0])
                plan[work] = chance.choice(things)
                if plan[work] == "lacking":
                    plan.pop(work)
            self.assert_broken(book, plan, first_broken(book, plan))


class Behind(unittest.TestCase):
    def test_what_was_told_does_not_change(self):
        book, plan = copy.deepcopy(BOOK), {"chair": ("quick", 0), "table": ("quick", 1)}
        told = broken(book, plan)
        book.clear()
        plan.clear()
        self.assertEqual(told, ("room", "saw", 1))

    def test_nothing_is_remembered(self):
        book, plan = copy.deepcopy(BOOK), dict(KEPT)
        self.assertEqual((broken(book, plan), cost_of_plan(book, plan)), (None, 150))
        book[6][4] = 4
        book[5][4] = 7
        self.assertEqual((broken(book, plan), cost_of_plan(book, plan)), (("room", "saw", 0), 7))
        book[6][4] = 2
        plan["chair"] = ("quick", 3)
        self.assertEqual((broken(book, plan), cost_of_plan(book, plan)), (("room", "saw", 3), 27))
        self.assertEqual((broken(BOOK, KEPT), cost_of_plan(BOOK, KEPT)), (None, 150))


if __name__ == "__main__":
    unittest.main()
