"""Answers to books, without an earlier answer and beside one."""

import copy
import itertools
import random
import unittest

from nonebetter.answers import answer_to
from nonebetter.booked import choices, point_of, problem_of
from nonebetter.books import looked
from nonebetter.changes import carried
from nonebetter.errors import NoBook
from nonebetter.judge import judged, rows_told
from nonebetter.plans import broken, cost_of_plan
from nonebetter.rows import cost_of, keeps

# A book with rows of every form. Table waits for chair, which costs least when it is late.
BOOK = [
    ["days", 5],
    ["bench", "saw", 3],
    ["shut", "saw", 0, 1],
    ["store", "planks", 9, 4],
    ["work", "chair"],
    ["way", "chair", "quick", 1, 90],
    ["way", "chair", "slow", 3, 50],
    ["uses", "chair", "quick", "saw", 3],
    ["uses", "chair", "slow", "saw", 2],
    ["takes", "chair", "quick", "planks", 4],
    ["gives", "chair", "quick", "planks", 2],
    ["takes", "chair", "slow", "planks", 3],
    ["work", "table"],
    ["way", "table", "quick", 1, 30],
    ["uses", "table", "quick", "saw", 2],
    ["takes", "table", "quick", "planks", 1],
    ["after", "chair", "table", 0],
    ["late", "chair", 3, 20],
]

# Three works that need the whole bench for a day each, and but two days.
CROWDED = [["days", 2], ["bench", "saw", 1]] + [
    row for work in "abc" for row in (["work", work], ["way", work, "q", 1, 5], ["uses", work, "q", "saw", 1])]


def with_rows(book, *rows):
    return copy.deepcopy(book) + [list(row) for row in rows]


def named_by(line):
    if line[0] == "sum":
        return [place for place, _ in line[1]]
    return list({"share": line[1:2], "shut": line[1:2], "either": line[1:3]}.get(line[0], ()))


def on_better(paper):
    """For each line whether it rests on "better"."""
    told = []
    for line in paper:
        told.append(line[0] == "better" or any(told[place] for place in named_by(line)))
    return told


def plans_of(book):
    """All plans of a book, kept or broken."""
    works = [row[1] for row in book if row[0] == "work"]
    ways = [[(row[2], begin) for row in book if row[:2] == ["way", work] for begin in range(book[0][1] - row[3] + 1)]
            for work in works]
    return [dict(zip(works, taken)) for taken in itertools.product(*ways)]


def least_cost(book):
    return min([cost_of_plan(book, plan) for plan in plans_of(book) if broken(book, plan) is None], default=None)


def some_rows(chance, days, works, benches, stores, rare):
    """Rows that may stand behind those that name works, benches and stores."""
    rows = []
    for bench in benches:
        for _ in range(chance.choice((0, 0, 1, 2))):
            begin = chance.randrange(days)
            rows.append(["shut", bench, begin, chance.randint(begin + 1, days)])
    for work in works:
        for way in ("r", "q")[:2 if chance.randrange(2) else chance.choice((0, 1, 1, 1, 1, 1))]:
            rows.append(["way", work, way, chance.randint(1, days), chance.randint(0, 9)])
            for bench in benches:
                if chance.randrange(rare) == 0:
                    rows.append(["uses", work, way, bench, chance.randint(1, 3)])
            for word, store in itertools.product(("takes", "gives"), stores):
                if chance.randrange(rare) == 0:
                    rows.append([word, work, way, store, chance.randint(1, 3)])
        if chance.randrange(2):
            rows.append(["late", work, chance.randint(0, days), chance.randint(1, 9)])
    for pair in itertools.permutations(works, 2):
        if chance.randrange(2 * rare) == 0:
            rows.append(["after", *pair, chance.choice((0, 0, 1, chance.randint(0, days)))])
    return rows


def some_book(chance):
    """A small book, its rows mingled as far as a book's may be."""
    days = chance.randint(1, 5)
    works, benches, stores = ("c", "b", "a", "d")[:chance.choice((0, 1, 2, 3, 3, 4))], ("y", "x"), ("t", "s")
    benches, stores = benches[:chance.randint(0, 2)], stores[:chance.randint(0, 2)]
    rows = [["bench", bench, chance.randint(0, 5)] for bench in benches] + [["work", work] for work in works]
    for store in stores:
        most = chance.randint(0, 6)
        rows.append(["store", store, most, chance.randint(0, most)])
    rows += some_rows(chance, days, works, benches, stores, chance.choice((2, 4, 6)))
    chance.shuffle(rows)
    rank = {"bench": 0, "store": 0, "work": 0, "way": 1, "shut": 1, "late": 1, "after": 1}
    return [["days", days]] + sorted(rows, key=lambda row: rank.get(row[0], 2))


def is_book(rows):
    try:
        looked(rows)
    except NoBook:
        return False
    return True


def great_book(chance):
    """A book of about sixty choices, with benches and stores that are much asked for."""
    days, ways = chance.choice(((12, "q"), (4, "qrs"), (6, "qr"), (7, "qr")))
    book = [["days", days]] + [["bench", bench, chance.randint(3, 9)] for bench in "xyz"]
    for store in "st":
        most = chance.randint(4, 15)
        book.append(["store", store, most, chance.randint(0, most)])
    for work in "abcde":
        book.append(["work", work])
        for way in ways:
            book.append(["way", work, way, chance.randint(1, max(1, days // 3)), chance.randint(0, 50)])
            book += [["uses", work, way, bench, chance.randint(1, 5)] for bench in "xyz" if chance.randrange(3)]
            for word, store in itertools.product(("takes", "gives"), "st"):
                if chance.randrange(2):
                    book.append([word, work, way, store, chance.randint(1, 7)])
        if chance.randrange(5):
            book.append(["late", work, chance.randint(0, days), chance.randint(1, 30)])
    for pair in itertools.combinations("abcde", 2):
        if chance.randrange(8) == 0:
            book.append(["after", *pair, chance.randint(0, 1)])
    return book


class AnswerCase(unittest.TestCase):
    def assert_answer(self, book, earlier=None):
        """All that is told of an answer but that no plan costs less; this the judge says."""
        looked(book)
        ahead = copy.deepcopy((book, earlier))
        told = answer_to(book) if earlier is None else answer_to(book, earlier)
        self.assertEqual((book, earlier), ahead)
        self.assertEqual([type(told), len(told), type(told[3])], [tuple, 5, list])
        word, plan, cost, paper, lines = told
        problem = problem_of(book)
        self.assertIsNone(judged(problem, cost, paper), (book, earlier))
        if word == "plan":
            self.assertEqual([type(plan), type(cost)], [dict, int])
            self.assertIsNone(broken(book, plan), book)
            self.assertEqual(cost_of_plan(book, plan), cost)
            self.assertTrue(keeps(problem, point_of(book, plan)))
            self.assertEqual(cost_of(problem, point_of(book, plan)), cost)
        else:
            self.assertEqual((word, plan, cost), ("none", None, None))
        self.assert_lines(book, earlier, paper, lines)
        return told

    def assert_lines(self, book, earlier, paper, lines):
        """The paper begins with what is carried over, and lines are the places of that."""
        if earlier is None or choices(book)[:len(choices(earlier[0]))] != choices(earlier[0]):
            self.assertIsNone(lines)
            return
        self.assertIs(type(lines), list)
        self.assertEqual(len(lines), len(earlier[1]))
        for best in (None, 0, 5, 10 ** 6):
            told = carried(problem_of(earlier[0]), best, earlier[1], problem_of(book), None)
            self.assertEqual(lines, told[1])
            self.assertEqual(paper[:len(told[0])], told[0])
        for place, better in zip(lines, on_better(earlier[1])):
            self.assertTrue(place is None or not better)

    def assert_cost(self, book, cost, earlier=None):
        told = self.assert_answer(book, earlier)
        self.assertEqual(told[2], cost, book)
        return told


class Plans(AnswerCase):
    """Books with a plan."""

    def test_every_form(self):
        # Chair begins on day 1 at the earliest: slow it is a day late, and costs 70 with the table's 30.
        told = self.assert_cost(BOOK, 100)
        self.assertEqual(told[:2], ("plan", {"chair": ("slow", 1), "table": ("quick", 4)}))
        self.assertIsNone(told[4])

    def test_no_works(self):
        for book in ([["days", 1]], [["days", 12], ["bench", "saw", 0], ["store", "oil", 0, 0]]):
            self.assertEqual(self.assert_cost(book, 0)[:2], ("plan", {}))

    def test_one_plan(self):
        book = [["days", 3], ["work", "a"], ["way", "a", "q", 3, 999999], ["late", "a", 0, 999999]]
        self.assertEqual(self.assert_cost(book, 4 * 999999)[1], {"a": ("q", 0)})

    def test_nothing_costs(self):
        book = [["days", 3], ["work", "a"], ["way", "a", "q", 1, 0], ["work", "b"], ["way", "b", "q", 2, 0]]
        self.assert_cost(book, 0)

    def test_crowded(self):
        for days in (3, 4, 6):
            self.assert_cost([["days", days]] + CROWDED[1:], 15)
        late = [["late", work, 1, 10] for work in "abc"]
        self.assert_cost([["days", 3]] + CROWDED[1:] + late, 15 + 10 + 20)

    def test_stores_to_be_filled_first(self):
        book = [["days", 3], ["store", "oil", 2, 0], ["work", "a"], ["way", "a", "q", 1, 1], ["takes", "a", "q", "oil", 2],
                ["late", "a", 0, 10], ["work", "b"], ["way", "b", "q", 1, 5], ["gives", "b", "q", "oil", 2]]
        self.assertEqual(self.assert_cost(book, 26)[1], {"a": ("q", 1), "b": ("q", 0)})

    def test_a_dearer_way(self):
        book = [["days", 2], ["bench", "saw", 1], ["work", "a"], ["way", "a", "q", 2, 1], ["way", "a", "r", 1, 8],
                ["uses", "a", "q", "saw", 1], ["uses", "a", "r", "saw", 1], ["shut", "saw", 1, 2]]
        self.assertEqual(self.assert_cost(book, 8)[1], {"a": ("r", 0)})
        self.assertEqual(self.assert_cost(book[:-1], 1)[1], {"a": ("q", 0)})


class NoPlans(AnswerCase):
    """Books without a plan."""

    def test_a_work_without_a_way(self):
        self.assert_cost([["days", 3], ["work", "a"]], None)
        self.assert_cost([["days", 3], ["work", "b"], ["way", "b", "q", 1, 0], ["work", "a"]], None)

    def test_benches(self):
        self.assert_cost(CROWDED, None)
        self.assert_cost(with_rows([["days", 3]] + CROWDED[1:], ["shut", "saw", 1, 2]), None)

    def test_stores(self):
        book = [["days", 3], ["store", "oil", 2, 0], ["work", "a"], ["way", "a", "q", 1, 1], ["takes", "a", "q", "oil", 1]]
        self.assert_cost(book, None)
        book = [["days", 3], ["store", "oil", 2, 2], ["work", "a"], ["way", "a", "q", 1, 1], ["gives", "a", "q", "oil", 1]]
        self.assert_cost(book, None)

    def test_behind_one_another(self):
        book = [["days", 3], ["work", "a"], ["work", "b"], ["way", "a", "q", 1, 1], ["way", "b", "q", 1, 1],
                ["after", "a", "b", 0], ["after", "b", "a", 0]]
        self.assert_cost(book, None)
        self.assert_cost(book[:-1] + [["late", "b", 1, 3]], 5)
        self.assert_cost(book[:5] + [["after", "a", "b", 2]], None)

    def test_all_at_once(self):
        book = with_rows(BOOK, ["work", "door"], ["way", "door", "q", 4, 1], ["uses", "door", "q", "saw", 2])
        self.assert_cost(book, None)


class SmallBooks(AnswerCase):
    def test_all_plans(self):
        chance = random.Random(21)
        costs = []
        for _ in range(400):
            book = some_book(chance)
            costs.append(least_cost(book))
            self.assert_cost(book, costs[-1])
        self.assertGreater(costs.count(None), 100)
        self.assertGreater(len(costs) - costs.count(None), 100)

    def test_alike_works(self):
        # Works, ways and days that are alike in all things.
        for days, works, room in itertools.product((2, 3, 4), (2, 3, 4), (1, 2)):
            book = [["days", days], ["bench", "saw", room]]
            for work in "abcd"[:works]:
                book.append(["work", work])
                for way in "qr":
                    book += [["way", work, way, 1, 3], ["uses", work, way, "saw", 1]]
            self.assert_cost(book, 3 * works if works <= days * room else None)


class GreatBooks(AnswerCase):
    def test_sixty_choices(self):
        chance = random.Random(22)
        words = []
        while len(words) < 25:
            book = great_book(chance)
            if len(choices(book)) <= 60:
                words.append(self.assert_answer(book)[0])
        self.assertGreater(min(words.count("plan"), words.count("none")), 3)

    def test_alike(self):
        for days, ways in ((12, "q"), (6, "qr"), (4, "qrs")):
            for room in (1, 2):
                book = [["days", days], ["bench", "saw", room]]
                for work in "abcde":
                    book += [["work", work], ["late", work, 1, 7]]
                    for way in ways:
                        book += [["way", work, way, 1, 3], ["uses", work, way, "saw", 1]]
                late = sum(7 * (turn // room) for turn in range(5))
                self.assert_cost(book, 15 + late if 5 <= days * room else None)

    def test_all_works_behind_one_another(self):
        book = [["days", 12]] + [["bench", name, 9] for name in "xyz"] + [["store", name, 9, 4] for name in "st"]
        for work in "abcde":
            book += [["work", work], ["way", work, "q", 1, 3], ["uses", work, "q", "y", 2], ["late", work, 0, 1]]
        for work in "abcde":
            book += [["after", other, work, 1] for other in "abcde" if other < work]
        self.assert_cost(book, 15 + 1 + 3 + 5 + 7 + 9)
        told = self.assert_cost(with_rows(book, ["after", "e", "a", 0]), None)
        everything = book + [["after", work, other, 0] for work in "abcde" for other in "abcde" if other < work]
        self.assert_cost(everything, None, (with_rows(book, ["after", "e", "a", 0]), told[3]))


class SameBook(AnswerCase):
    """Beside the answer to the same book."""

    def test_all_is_carried_but_what_rests_on_better(self):
        chance = random.Random(23)
        for book in [BOOK, CROWDED, [["days", 1]]] + [some_book(chance) for _ in range(60)]:
            told = self.assert_answer(book)
            again = self.assert_cost(book, told[2], (copy.deepcopy(book), told[3]))
            self.assertEqual([place is None for place in again[4]], on_better(told[3]))
            third = self.assert_cost(book, told[2], (book, again[3]))
            self.assertEqual([place is None for place in third[4]], on_better(again[3]))

    def test_no_plan_again(self):
        told = self.assert_answer(CROWDED)
        self.assertNotIn(True, on_better(told[3]))
        again = self.assert_answer(CROWDED, (CROWDED, told[3]))
        self.assertNotIn(None, again[4])
        self.assertLessEqual(len(again[3]), len(told[3]) + 1)

    def test_papers_of_others(self):
        # No line, and lines of a paper that nobody needs.
        self.assertEqual(self.assert_cost(BOOK, 100, (BOOK, []))[4], [])
        self.assertEqual(self.assert_cost(CROWDED, None, (CROWDED, []))[4], [])
        paper = [("better",), ("given", 0), ("sum", [(0, 1), (1, 2)]), ("given", 0), ("low", 2), ("share", 2, 1)]
        told = self.assert_cost(BOOK, 100, (BOOK, paper))
        self.assertEqual(told[4], [None, 0, None, 0, 1, None])
        self.assertEqual(told[3][:2], [("given", 0), ("low", 2)])

    def test_by_name_and_none(self):
        told = answer_to(BOOK)
        self.assertEqual(answer_to(BOOK, None), told)
        self.assertEqual(answer_to(BOOK, earlier=None), told)
        self.assertEqual(answer_to(book=BOOK, earlier=(BOOK, told[3])), answer_to(BOOK, (BOOK, told[3])))


class ChangedBook(AnswerCase):
    def beside(self, book, other):
        """The answer to the other book, beside that to the first."""
        earlier = (book, self.assert_answer(book)[3])
        told = self.assert_answer(other, earlier)
        self.assertEqual(told[2], answer_to(other)[2])
        return (earlier[1], told)

    def assert_begun_anew(self, book, other):
        paper, told = self.beside(book, other)
        self.assertIsNone(told[4])

    def assert_gone_on(self, book, other):
        paper, told = self.beside(book, other)
        self.assertEqual(len(told[4]), len(paper))
        return told[4]

    def test_a_row_put_in(self):
        for row, cost in (
            (["late", "table", 3, 1], 102), (["shut", "saw", 4, 5], 120), (["after", "table", "chair", 0], None),
            (["gives", "table", "quick", "planks", 9], 100), (["bench", "plane", 1], 100), (["shut", "saw", 1, 3], 140),
            (["gives", "table", "quick", "planks", 10], None),
        ):
            self.assertEqual(least_cost(with_rows(BOOK, row)), cost, row)
            self.assert_gone_on(BOOK, with_rows(BOOK, row))

    def test_a_row_taken_out(self):
        for number in range(len(BOOK)):
            fewer = BOOK[:number] + BOOK[number + 1:]
            if is_book(fewer):
                paper, told = self.beside(BOOK, fewer)
                self.assertEqual(told[2], least_cost(fewer))
                self.assertEqual(told[4] is None, BOOK[number][0] == "way")

    def test_what_still_holds_is_carried(self):
        # Nothing of the paper is touched: the paper is let by with one line more at the most.
        for row in (["late", "a", 1, 3], ["bench", "plane", 4], ["store", "oil", 1, 1], ["work", "d"],
                    ["after", "a", "b", 1], ["way", "c", "r", 2, 9]):
            other = with_rows(CROWDED, row)
            paper, told = self.beside(CROWDED, other)
            if row[0] != "way":
                self.assertEqual(len(told[4]) - told[4].count(None), len(paper))
                self.assertLessEqual(len(told[3]), len(paper) + 1)
            self.assertIsNot(told[4], None)

    def test_a_work_more_at_the_end(self):
        more = with_rows(BOOK, ["work", "door"], ["way", "door", "quick", 2, 7])
        self.assertIsNotNone(self.assert_gone_on(BOOK, more))
        self.assert_begun_anew(more, BOOK)
        self.assert_gone_on(BOOK, with_rows(BOOK, ["work", "door"]))

    def test_a_work_more_ahead_of_others(self):
        more = BOOK[:4] + [["work", "door"], ["way", "door", "quick", 2, 7]] + BOOK[4:]
        self.assert_begun_anew(BOOK, more)
        # Its choices come behind those of works that stand ahead, wherever its ways stand.
        more = BOOK[:12] + [["work", "door"]] + BOOK[12:] + [["way", "door", "quick", 2, 7]]
        self.assert_begun_anew(BOOK, more)
        self.assert_gone_on(BOOK, BOOK[:4] + [["work", "door"]] + BOOK[4:])

    def test_a_way_more(self):
        self.assert_gone_on(BOOK, with_rows(BOOK, ["way", "table", "slow", 2, 7]))
        self.assert_begun_anew(BOOK, with_rows(BOOK, ["way", "chair", "dear", 2, 7]))
        self.assert_begun_anew(BOOK, BOOK[:13] + [["way", "table", "slow", 2, 7]] + BOOK[13:])

    def test_other_lengths_and_costs(self):
        for place, way in ((13, ["way", "table", "quick", 1, 31]), (5, ["way", "chair", "quick", 1, 0])):
            self.assert_gone_on(BOOK, BOOK[:place] + [way] + BOOK[place + 1:])
        self.assert_begun_anew(BOOK, BOOK[:5] + [["way", "chair", "quick", 2, 90]] + BOOK[6:])
        # A way that is shorter may begin on one day more, behind the others.
        one = [["days", 3], ["work", "a"], ["way", "a", "q", 2, 1]]
        self.assert_gone_on(one, one[:2] + [["way", "a", "q", 1, 1]])
        self.assert_begun_anew(one[:2] + [["way", "a", "q", 1, 1]], one)

    def test_other_days(self):
        one = [["days", 3], ["work", "a"], ["way", "a", "q", 2, 1], ["late", "a", 0, 1]]
        self.assert_gone_on(one, [["days", 4]] + one[1:])
        self.assert_begun_anew(one, [["days", 2]] + one[1:])
        self.assert_begun_anew(BOOK, [["days", 6]] + BOOK[1:])

    def test_other_names(self):
        renamed = [[{"table": "desk"}.get(word, word) for word in row] for row in BOOK]
        self.assert_begun_anew(BOOK, renamed)
        renamed = [[{"quick": "swift"}.get(word, word) for word in row] for row in BOOK]
        self.assert_begun_anew(BOOK, renamed)
        renamed = [[{"saw": "lathe", "planks": "oak"}.get(word, word) for word in row] for row in BOOK]
        told = self.assert_gone_on(BOOK, renamed)
        self.assertEqual(told, answer_to(BOOK, (BOOK, answer_to(BOOK)[3]))[4])

    def test_from_a_book_without_choices(self):
        for book in ([["days", 5]], [["days", 5], ["bench", "saw", 3]], [["days", 3], ["work", "a"]]):
            self.assert_gone_on(book, BOOK)
            self.assert_gone_on(book, CROWDED)
            self.assert_gone_on(book, [["days", 1]])
        self.assert_begun_anew(BOOK, [["days", 5]])

    def test_works_in_another_order(self):
        book = [["days", 2], ["work", "a"], ["way", "a", "q", 1, 1], ["work", "b"], ["way", "b", "q", 1, 2]]
        self.assert_begun_anew(book, book[:1] + book[3:] + book[1:3])

    def test_changes_one_behind_another(self):
        chance = random.Random(24)
        gone_on = 0
        for _ in range(40):
            book = some_book(chance)
            told = self.assert_cost(book, least_cost(book))
            for _ in range(6):
                other = self.changed_book(chance, book)
                told = self.assert_cost(other, least_cost(other), (book, told[3]))
                gone_on += told[4] is not None
                book = other
        self.assertGreater(gone_on, 100)

    def changed_book(self, chance, book):
        """The book with a row put in or taken out, or another one in its place."""
        names = [[row[1] for row in book if row[0] == word] for word in ("work", "bench", "store")]
        while True:
            other = copy.deepcopy(book)
            place = chance.randint(1, len(book))
            rows = some_rows(chance, book[0][1], names[0] + ["e"], names[1] + ["v"], names[2] + ["u"], 2)
            rows += [["work", "e"], ["bench", "v", 2], ["store", "u", 3, 1]]
            if chance.randrange(3):
                other[place:place + 1] = []
            if chance.randrange(3):
                other.insert(place, chance.choice(rows))
            if is_book(other) and other != book and len(choices(other)) <= 40:
                return other

    def test_great_books(self):
        chance = random.Random(25)
        done = 0
        while done < 6:
            book = great_book(chance)
            told = answer_to(book)
            if len(choices(book)) > 60 or told[0] == "none":
                continue
            done += 1
            for word in ("uses", "gives", "late"):
                places = [place for place, row in enumerate(book) if row[0] == word]
                place = chance.choice(places)
                other = book[:place] + book[place + 1:]
                self.assertIsNotNone(self.assert_cost(other, answer_to(other)[2], (book, told[3]))[4])


class Better(AnswerCase):
    """Lines that rest on "better" are not carried, whatever their best was."""

    def test_they_are_not_carried(self):
        told = self.assert_answer(BOOK)
        better = on_better(told[3])
        self.assertIn(True, better)
        for other in (BOOK, with_rows(BOOK, ["late", "table", 3, 1]), with_rows(BOOK, ["work", "door"])):
            lines = self.assert_answer(other, (BOOK, told[3]))[4]
            self.assertEqual([place for place, is_better in zip(lines, better) if is_better], [None] * better.count(True))

    def test_a_row_that_is_told_with_and_without_better(self):
        # Named 0 times it adds nothing, but what names it rests on it.
        book = [["days", 2], ["work", "a"], ["way", "a", "q", 2, 0]]
        paper = [("better",), ("sum", [(0, 1)]), ("given", 0), ("sum", [(0, 0), (2, 1)]), ("sum", [(2, 1)])]
        for other in (book, with_rows(book, ["bench", "saw", 2])):
            told = self.assert_cost(other, 0, (book, paper))
            self.assertEqual(told[4], [None, None, 0, None, 0])

    def test_the_same_cost_as_without(self):
        # An earlier best that is now too low must not be leant on.
        cheap = with_rows(BOOK[:13] + [["way", "table", "quick", 1, 0]] + BOOK[14:])
        told = self.assert_cost(cheap, 70)
        self.assert_cost(BOOK, 100, (cheap, told[3]))
        told = self.assert_cost(BOOK, 100)
        self.assert_cost(cheap, 70, (BOOK, told[3]))


class Told(unittest.TestCase):
    # A line of each form that has a list in it.
    PAPER = [("given", 0), ("given", 4), ("sum", [(0, 1), (1, 2)]), ("shut", 0, [(choice, 0) for choice in range(9)]),
             ("like", list(range(13)))]

    def handed(self):
        """What is handed in, time after time the same, all of it new."""
        beside = ((BOOK, BOOK, self.PAPER), (CROWDED, CROWDED, answer_to(CROWDED)[3]), (BOOK, BOOK, answer_to(BOOK)[3]),
                  (BOOK, CROWDED, self.PAPER))
        handed = [(copy.deepcopy(book),) for book in (BOOK, CROWDED, [["days", 1]])]
        for book, earlier, paper in beside:
            handed.append((copy.deepcopy(book), (copy.deepcopy(earlier), copy.deepcopy(paper))))
        return handed

    def inner(self, thing):
        """All lists and dicts within a thing."""
        parts = list(thing.values()) if isinstance(thing, dict) else thing if isinstance(thing, (tuple, list)) else []
        inner = [part for more in parts for part in self.inner(more)]
        return inner + ([thing] if isinstance(thing, (list, dict)) else [])

    def test_the_paper_has_what_is_handed_in(self):
        book, earlier = self.handed()[3]
        told = answer_to(book, earlier)
        self.assertEqual(len(rows_told(problem_of(book), None, earlier[1])), 5)
        self.assertEqual(told[3][:5], earlier[1])

    def test_each_list_is_a_new_one(self):
        for handed in self.handed():
            parts = self.inner(handed) + self.inner(answer_to(*handed)) + self.inner(answer_to(*handed))
            self.assertEqual(len({id(part) for part in parts}), len(parts))

    def test_changing_what_was_told_changes_nothing(self):
        for number, handed in enumerate(self.handed()):
            told = answer_to(*handed)
            asked = copy.deepcopy(told)
            for part in self.inner(told):
                part.clear()
            self.assertEqual(handed, self.handed()[number])
            self.assertEqual(answer_to(*handed), asked)

    def test_changing_what_was_handed_in_behind(self):
        for handed in self.handed():
            told = answer_to(*handed)
            asked = copy.deepcopy(told)
            for part in self.inner(handed):
                part.clear()
            self.assertEqual(told, asked)


if __name__ == "__main__":
    unittest.main()
