"""A desk: books put on it row by row, taken back, and answered."""

import copy
import itertools
import random
import unittest

from nonebetter.answers import answer_to
from nonebetter.booked import choices, problem_of
from nonebetter.books import looked
from nonebetter.changes import carried
from nonebetter.desk import Desk
from nonebetter.errors import NoBook, NoNumber, NoPicture, NoStep, PlanError
from nonebetter.judge import judged
from nonebetter.plans import broken, cost_of_plan

# Row 1 is leant on by row 4, row 2 by rows 3, 4 and 5, row 3 by row 4.
BOOK = [
    ["days", 3],
    ["bench", "saw", 2],
    ["work", "chair"],
    ["way", "chair", "quick", 1, 50],
    ["uses", "chair", "quick", "saw", 2],
    ["late", "chair", 1, 10],
]

# Three works that need the whole bench for a day each, and but two days.
CROWDED = [["days", 2], ["bench", "saw", 1]] + [
    row for work in "abc" for row in (["work", work], ["way", work, "q", 1, 5], ["uses", work, "q", "saw", 1])]

SHUT = ["shut", "saw", 0, 1]

NO_BOOKS = (
    ([], 0),
    ([["work", "a"]], 0),
    ([["bench", "saw", 2], ["days", 3]], 0),
    ([["days", 0]], 0),
    ([["days", 13]], 0),
    ([["days", True]], 0),
    ([["days", 3], ["days", 3]], 1),
    ([["days", 3], ["work", "a"], ["days", 4]], 2),
    ([["days", 3], ["work"]], 1),
    ([["days", 3], ["work", "a"], ["way", "a", "q", 1]], 2),
    ([["days", 3], ["work", "a"], []], 2),
    ([["days", 3], ["way", "a", "q", 1, 5], ["work", "a"]], 1),
    ([["days", 3], ["work", "a"], ["after", "a", "b", 0], ["work", "b"]], 2),
    ([["days", 3], ["bench", "saw", 2], ["work", "a"], ["uses", "a", "q", "saw", 1], ["work"]], 3),
    ([["days", 3], ["work", "a"], ["work", "a"]], 2),
    ([["days", 3], ("work", "a")], 1),
    ([["days", 3], None], 1),
)

# Things of other kinds, and rows of other forms.
NO_ROWS = (
    None, True, False, 0, 7, "", "work", "work door", (), ("work", "door"), [], [[]], [None], ["work"], ["work", None],
    ["work", "door", 1], ["work", "Door"], ["work", ["door"]], ["work", ("door",)], [["work", "door"]], ["door"],
    ["days", 3], ["bench", "plane", True], ["bench", "plane", "2"], ["bench", "plane", 100], ["bench", "saw", 2],
    ["shut", "saw", 1, 1], ["shut", "plane", 0, 1], ["late", "chair", 1, 10], ["way", "chair", "slow", 4, 1],
)


def is_book(rows):
    try:
        looked(rows)
    except NoBook:
        return False
    return True


def plans_of(book):
    """All plans of a book, kept or broken."""
    works = [row[1] for row in book if row[0] == "work"]
    ways = [[(row[2], begin) for row in book if row[:2] == ["way", work] for begin in range(book[0][1] - row[3] + 1)]
            for work in works]
    return [dict(zip(works, taken)) for taken in itertools.product(*ways)]


def least_cost(book):
    return min([cost_of_plan(book, plan) for plan in plans_of(book) if broken(book, plan) is None], default=None)


def some_row(chance, days):
    """A row that may stand in a small book; most of them do not behind all rows."""
    work, other, way = chance.choice("abc"), chance.choice("abc"), chance.choice("qr")
    bench, store = chance.choice("xy"), chance.choice("st")
    begin = chance.randrange(days)
    most = chance.randint(0, 5)
    return chance.choice((
        ["bench", bench, chance.randint(0, 4)], ["shut", bench, begin, chance.randint(begin + 1, days)],
        ["store", store, most, chance.randint(0, most)], ["work", work],
        ["way", work, way, chance.randint(1, days), chance.randint(0, 9)],
        ["way", work, way, chance.randint(1, days), chance.randint(0, 9)],
        ["uses", work, way, bench, chance.randint(1, 3)], ["uses", work, way, bench, chance.randint(1, 3)],
        ["takes", work, way, store, chance.randint(1, 3)], ["gives", work, way, store, chance.randint(1, 3)],
        ["after", work, other, chance.randint(0, 2)], ["late", work, chance.randint(0, days), chance.randint(1, 9)],
        ["days", days]))


class DeskCase(unittest.TestCase):
    def assert_refused(self, row, deed, *given):
        """The deed is refused with NoBook, which keeps the row, and changes nothing that is handed in."""
        ahead = copy.deepcopy(given)
        with self.assertRaises(NoBook) as caught:
            deed(*given)
        self.assertEqual(caught.exception.row, row, given)
        self.assertEqual(given, ahead)

    def assert_no_step(self, desk):
        ahead = desk.book()
        with self.assertRaises(NoStep):
            desk.back()
        self.assertEqual(desk.book(), ahead)

    def assert_stays(self, desk, row, deed, *given):
        """The deed is refused, and the desk has the book that it had."""
        ahead = desk.book()
        self.assert_refused(row, deed, *given)
        self.assertEqual(desk.book(), ahead)


class NewDesk(DeskCase):
    def test_it_has_its_book(self):
        for book in (BOOK, CROWDED, [["days", 1]]):
            handed = copy.deepcopy(book)
            desk = Desk(handed)
            self.assertEqual(desk.book(), book)
            self.assertEqual(handed, book)
            self.assertEqual([type(row) for row in desk.book()], [list] * len(book))
            self.assert_no_step(desk)

    def test_lists_that_are_no_books(self):
        for rows, row in NO_BOOKS:
            self.assert_refused(row, Desk, rows)

    def test_a_refusal_is_any_refusal_and_no_other(self):
        for above in (NoBook, PlanError, ValueError):
            self.assertRaises(above, Desk, [])
        with self.assertRaises(PlanError) as caught:
            Desk([])
        self.assertNotIsInstance(caught.exception, (NoNumber, NoStep, NoPicture))


class Put(DeskCase):
    def test_in_between_and_at_the_end(self):
        for place in (2, 3, 4, 5, 6):
            desk = Desk(BOOK)
            self.assertIsNone(desk.put_row(place, SHUT))
            self.assertEqual(desk.book(), BOOK[:place] + [SHUT] + BOOK[place:])
        desk = Desk(BOOK)
        desk.put_row(place=1, row=["work", "door"])
        self.assertEqual(desk.book(), BOOK[:1] + [["work", "door"]] + BOOK[1:])

    def test_at_the_first_place(self):
        # The first row is "days", and no other is.
        desk = Desk(BOOK)
        self.assert_stays(desk, 0, desk.put_row, 0, ["work", "door"])
        self.assert_stays(desk, 0, desk.put_row, 0, SHUT)
        self.assert_stays(desk, 0, desk.put_row, 0, None)
        self.assert_stays(desk, 1, desk.put_row, 0, ["days", 3])
        self.assert_stays(desk, 1, desk.put_row, 0, ["days", 5])
        self.assert_no_step(desk)

    def test_ahead_of_what_it_names(self):
        desk = Desk(BOOK)
        self.assert_stays(desk, 1, desk.put_row, 1, SHUT)
        self.assert_stays(desk, 2, desk.put_row, 2, ["way", "chair", "slow", 1, 5])
        self.assert_stays(desk, 3, desk.put_row, 3, ["takes", "chair", "quick", "planks", 1])

    def test_what_is_said_already(self):
        # The row that is against this is the second one, whichever was put in.
        desk = Desk(BOOK)
        self.assert_stays(desk, 2, desk.put_row, 1, ["bench", "saw", 5])
        self.assert_stays(desk, 2, desk.put_row, 2, ["bench", "saw", 5])
        self.assert_stays(desk, 6, desk.put_row, 4, ["late", "chair", 3, 7])
        self.assert_stays(desk, 5, desk.put_row, 5, ["uses", "chair", "quick", "saw", 1])

    def test_at_places_that_are_not_there(self):
        desk = Desk(BOOK)
        for place in (-1, -2, -6, -7, 7, 8, 100, -10 ** 18, 10 ** 18):
            self.assert_stays(desk, place, desk.put_row, place, ["work", "door"])
            # The place is wrong ahead of the row.
            self.assert_stays(desk, place, desk.put_row, place, None)
        one = Desk([["days", 4]])
        self.assert_stays(one, 2, one.put_row, 2, ["work", "door"])
        self.assert_stays(one, -1, one.put_row, -1, ["work", "door"])
        one.put_row(1, ["work", "door"])
        self.assertEqual(one.book(), [["days", 4], ["work", "door"]])

    def test_rows_of_other_kinds(self):
        desk = Desk(BOOK)
        for row in NO_ROWS:
            self.assert_stays(desk, 6, desk.put_row, 6, row)
        self.assert_no_step(desk)

    def test_each_row_at_each_place(self):
        for row in [list(row) for row in BOOK] + [SHUT, ["store", "oil", 3, 1], ["way", "chair", "slow", 3, 1]]:
            for place in range(-2, len(BOOK) + 3):
                desk = Desk(BOOK)
                rows = BOOK[:max(0, place)] + [row] + BOOK[max(0, place):]
                if not 0 <= place <= len(BOOK):
                    self.assert_stays(desk, place, desk.put_row, place, row)
                elif is_book(rows):
                    desk.put_row(place, row)
                    self.assertEqual(desk.book(), rows)
                else:
                    with self.assertRaises(NoBook) as caught:
                        looked(rows)
                    self.assert_stays(desk, caught.exception.row, desk.put_row, place, row)


class Take(DeskCase):
    def test_rows_on_which_none_leans(self):
        for place in (4, 5):
            desk = Desk(BOOK)
            self.assertIsNone(desk.take_row(place))
            self.assertEqual(desk.book(), BOOK[:place] + BOOK[place + 1:])
        desk = Desk(BOOK)
        for place in (5, 4, 3, 2, 1):
            desk.take_row(place=place)
        self.assertEqual(desk.book(), [["days", 3]])

    def test_rows_on_which_later_ones_lean(self):
        # Told is the row of the new list that leans on it.
        desk = Desk(BOOK)
        for place, row in ((1, 3), (2, 2), (3, 3)):
            self.assert_stays(desk, row, desk.take_row, place)
        self.assert_no_step(desk)

    def test_the_first_row(self):
        desk = Desk(BOOK)
        self.assert_stays(desk, 0, desk.take_row, 0)
        one = Desk([["days", 3]])
        self.assert_stays(one, 0, one.take_row, 0)

    def test_at_places_that_are_not_there(self):
        desk = Desk(BOOK)
        for place in (-1, -6, -7, 6, 7, 100, 10 ** 18):
            self.assert_stays(desk, place, desk.take_row, place)
        self.assert_no_step(desk)


class Back(DeskCase):
    def test_behind_one_deed(self):
        for deed, given in (("put_row", (6, SHUT)), ("put_row", (2, SHUT)), ("take_row", (5,))):
            desk = Desk(BOOK)
            getattr(desk, deed)(*given)
            self.assertNotEqual(desk.book(), BOOK)
            self.assertIsNone(desk.back())
            self.assertEqual(desk.book(), BOOK)
            self.assert_no_step(desk)

    def test_behind_several_and_behind_itself(self):
        desk = Desk(BOOK)
        books = [desk.book()]
        for deed, given in (("put_row", (6, SHUT)), ("take_row", (4,)), ("put_row", (1, ["work", "door"])),
                            ("put_row", (7, ["shut", "saw", 1, 2])), ("take_row", (1,))):
            getattr(desk, deed)(*given)
            books.append(desk.book())
        for book in reversed(books[:-1]):
            desk.back()
            self.assertEqual(desk.book(), book)
        self.assert_no_step(desk)
        self.assert_no_step(desk)

    def test_deeds_taken_back_are_gone(self):
        desk = Desk(BOOK)
        desk.put_row(6, SHUT)
        desk.put_row(7, SHUT)
        desk.back()
        desk.take_row(4)
        desk.back()
        # Not the second one put in, which was taken back.
        self.assertEqual(desk.book(), BOOK + [SHUT])
        desk.back()
        self.assertEqual(desk.book(), BOOK)
        self.assert_no_step(desk)
        desk.take_row(5)
        self.assertEqual(desk.book(), BOOK[:5])
        desk.back()
        self.assertEqual(desk.book(), BOOK)
        self.assert_no_step(desk)

    def test_a_book_that_was_there_twice(self):
        desk = Desk(BOOK)
        desk.put_row(6, SHUT)
        desk.take_row(6)
        self.assertEqual(desk.book(), BOOK)
        desk.back()
        self.assertEqual(desk.book(), BOOK + [SHUT])
        desk.back()
        self.assertEqual(desk.book(), BOOK)
        self.assert_no_step(desk)

    def test_behind_refusals(self):
        desk = Desk(BOOK)
        desk.put_row(6, SHUT)
        self.assert_stays(desk, 0, desk.take_row, 0)
        self.assert_stays(desk, 9, desk.put_row, 9, SHUT)
        self.assert_stays(desk, 7, desk.put_row, 7, None)
        self.assert_stays(desk, -1, desk.take_row, -1)
        desk.back()
        self.assertEqual(desk.book(), BOOK)
        self.assert_stays(desk, 6, desk.put_row, 6, ["work"])
        self.assert_no_step(desk)

    def test_answers_are_no_deeds(self):
        desk = Desk(BOOK)
        desk.answer()
        self.assert_no_step(desk)
        desk.put_row(6, SHUT)
        desk.answer()
        desk.book()
        desk.back()
        self.assertEqual(desk.book(), BOOK)

    def test_the_refusal(self):
        for above in (NoStep, PlanError, ValueError):
            self.assertRaises(above, Desk(BOOK).back)
        with self.assertRaises(PlanError) as caught:
            Desk(BOOK).back()
        self.assertNotIsInstance(caught.exception, (NoNumber, NoBook, NoPicture))

    def test_two_desks(self):
        rows = copy.deepcopy(BOOK)
        one, other = Desk(rows), Desk(rows)
        one.put_row(6, SHUT)
        self.assertEqual(other.book(), BOOK)
        self.assert_no_step(other)
        other.take_row(5)
        other.take_row(4)
        self.assertEqual(one.book(), BOOK + [SHUT])
        other.back()
        one.back()
        self.assertEqual((one.book(), other.book()), (BOOK, BOOK[:5]))
        self.assert_no_step(one)
        one.answer()
        # The answer that the other desk told last is none of this one.
        self.assertIsNone(other.answer()[4])
        self.assertIsNotNone(one.answer()[4])


class Chance(DeskCase):
    def test_deeds_by_chance(self):
        """Beside a list of the books that were there."""
        chance = random.Random(31)
        counts = {"put": 0, "taken": 0, "refused": 0, "back": 0, "no step": 0}
        for _ in range(60):
            days = chance.randint(1, 4)
            books = [[["days", days], ["work", "a"], ["bench", "x", 3], ["way", "a", "q", 1, 2], ["work", "b"]]]
            desk = Desk(books[0])
            for _ in range(60):
                self.assertEqual(desk.book(), books[-1])
                counts[self.some_deed(chance, desk, books, days)] += 1
        self.assertGreater(min(counts.values()), 40, counts)

    def some_deed(self, chance, desk, books, days):
        book = books[-1]
        if chance.randrange(8) == 0:
            if len(books) == 1:
                self.assert_no_step(desk)
                return "no step"
            desk.back()
            books.pop()
            return "back"
        place = chance.choice((len(book) - 1, len(book), chance.randint(-1, len(book) + 1)))
        word, deed, given, end = "taken", desk.take_row, (place,), place + 1
        if chance.randrange(4):
            row = some_row(chance, days)
            word, deed, given, end = "put", desk.put_row, (place, row), place
        rows = book[:max(0, place)] + list(given[1:]) + book[max(0, end):]
        if 0 <= place <= len(book) - (word == "taken") and is_book(rows):
            self.assertIsNone(deed(*given))
            books.append(rows)
            return word
        self.assert_stays(desk, self.row_of_refusal(place, len(book) - (word == "taken"), rows), deed, *given)
        return "refused"

    def row_of_refusal(self, place, last, rows):
        if not 0 <= place <= last:
            return place
        with self.assertRaises(NoBook) as caught:
            looked(rows)
        return caught.exception.row


class AnswerCase(DeskCase):
    def assert_answer(self, desk, earlier):
        """The answer to the desk's book, carried over from the earlier book and paper."""
        book = desk.book()
        told = desk.answer()
        self.assertEqual(desk.book(), book)
        self.assertEqual([type(told), len(told)], [tuple, 5])
        word, plan, cost, paper, lines = told
        problem = problem_of(book)
        self.assertIsNone(judged(problem, cost, paper))
        self.assertEqual((word, plan is None, cost is None), (word, word == "none", word == "none"))
        if word == "plan":
            self.assertIsNone(broken(book, plan))
            self.assertEqual(cost_of_plan(book, plan), cost)
        if earlier is None or choices(book)[:len(choices(earlier[0]))] != choices(earlier[0]):
            self.assertIsNone(lines)
        else:
            brought = carried(problem_of(earlier[0]), None, earlier[1], problem, None)
            self.assertEqual(lines, brought[1])
            self.assertEqual(paper[:len(brought[0])], brought[0])
        return told


class Answers(AnswerCase):
    def test_the_first_begins_anew(self):
        for book, word, cost in ((BOOK, "plan", 50), (CROWDED, "none", None), ([["days", 1]], "plan", 0)):
            desk = Desk(book)
            told = self.assert_answer(desk, None)
            self.assertEqual((told[0], told[2], told[4]), (word, cost, None))
        self.assertEqual(Desk(BOOK).answer()[1], {"chair": ("quick", 0)})

    def test_the_first_behind_deeds_begins_anew_too(self):
        desk = Desk(BOOK)
        desk.put_row(6, SHUT)
        self.assertEqual(self.assert_answer(desk, None)[:3], ("plan", {"chair": ("quick", 1)}, 60))

    def test_asked_again(self):
        for book in (BOOK, CROWDED, [["days", 1]]):
            desk = Desk(book)
            earlier = None
            for _ in range(4):
                told = self.assert_answer(desk, earlier)
                earlier = (book, copy.deepcopy(told[3]))
            self.assertEqual(told[2], answer_to(book)[2])

    def test_carried_over_from_the_last_one_told(self):
        desk = Desk(BOOK)
        first = self.assert_answer(desk, None)
        # Of two deeds between answers only the book behind both is answered.
        desk.put_row(6, ["shut", "saw", 1, 3])
        desk.put_row(7, SHUT)
        second = self.assert_answer(desk, (BOOK, first[3]))
        self.assertEqual(second[:3], ("none", None, None))
        shut = desk.book()
        # Not from the answer to the book that is there again.
        desk.back()
        desk.back()
        third = self.assert_answer(desk, (shut, second[3]))
        self.assertEqual(third[2], 50)
        self.assertEqual(len(third[4]), len(second[3]))
        self.assertNotEqual(len(first[3]), len(second[3]))

    def test_behind_refusals(self):
        desk = Desk(BOOK)
        first = self.assert_answer(desk, None)
        self.assert_stays(desk, 0, desk.take_row, 0)
        self.assert_stays(desk, 6, desk.put_row, 6, ["way", "table", "quick", 1, 1])
        self.assert_no_step(desk)
        self.assertIsNotNone(self.assert_answer(desk, (BOOK, first[3]))[4])

    def test_choices_that_are_not_the_first_ones(self):
        desk = Desk(BOOK)
        first = self.assert_answer(desk, None)
        desk.put_row(2, ["work", "door"])
        desk.put_row(3, ["way", "door", "slow", 2, 4])
        ahead = desk.book()
        second = self.assert_answer(desk, (BOOK, first[3]))
        self.assertEqual((second[2], second[4]), (54, None))
        desk.put_row(8, ["way", "chair", "slow", 2, 4])
        more = desk.book()
        third = self.assert_answer(desk, (ahead, second[3]))
        self.assertIsNotNone(third[4])
        # Back at fewer choices nothing is carried over, though the answer ahead of the last one would fit.
        desk.back()
        self.assertIsNone(self.assert_answer(desk, (more, third[3]))[4])

    def test_all_plans_gone_through(self):
        chance = random.Random(32)
        counts = {"plan": 0, "none": 0, "anew": 0, "on": 0}
        for _ in range(25):
            days = chance.randint(1, 4)
            desk = Desk([["days", days]])
            earlier = None
            for _ in range(12):
                self.change(chance, desk, days)
                told = self.assert_answer(desk, earlier)
                self.assertEqual(told[2], least_cost(desk.book()), desk.book())
                counts[told[0]] += 1
                counts["anew" if told[4] is None else "on"] += 1
                earlier = (desk.book(), copy.deepcopy(told[3]))
        self.assertGreater(min(counts.values()), 30, counts)

    def change(self, chance, desk, days):
        """Puts in some rows, takes some out, and takes some deeds back."""
        for _ in range(chance.randint(5, 20)):
            rows = len(desk.book())
            try:
                if chance.randrange(5):
                    desk.put_row(chance.choice((rows, chance.randint(0, rows))), some_row(chance, days))
                elif chance.randrange(3):
                    desk.take_row(chance.randrange(rows))
                else:
                    desk.back()
            except (NoBook, NoStep):
                pass
            if len(choices(desk.book())) > 24:
                desk.back()


class Told(AnswerCase):
    """What is handed in and told is free to be changed by whoever has it."""

    def inner(self, thing):
        """All lists and dicts within a thing."""
        parts = list(thing.values()) if isinstance(thing, dict) else thing if isinstance(thing, (tuple, list)) else []
        inner = [part for more in parts for part in self.inner(more)]
        return inner + ([thing] if isinstance(thing, (list, dict)) else [])

    def spoil(self, thing):
        for part in self.inner(thing):
            part.clear()

    def test_the_list_handed_in(self):
        rows = copy.deepcopy(BOOK)
        desk = Desk(rows)
        rows[3][4] = 7
        rows.append(["work", "door"])
        self.assertEqual(desk.book(), BOOK)
        self.spoil(rows)
        self.assertEqual(desk.book(), BOOK)
        self.assertEqual(desk.answer(), answer_to(BOOK))

    def test_the_rows_put_in(self):
        desk = Desk(BOOK)
        row = list(SHUT)
        desk.put_row(6, row)
        row[3] = 3
        self.assertEqual(desk.book(), BOOK + [SHUT])
        row.clear()
        desk.put_row(7, ["work", "door"])
        self.assertEqual(desk.book(), BOOK + [SHUT, ["work", "door"]])
        desk.back()
        self.assertEqual(desk.book(), BOOK + [SHUT])
        row = list(SHUT)
        desk.put_row(7, row)
        desk.put_row(8, row)
        row[1] = "plane"
        self.assertEqual(desk.book(), BOOK + [SHUT] * 3)

    def test_the_books_told(self):
        desk = Desk(BOOK)
        desk.put_row(6, SHUT)
        for _ in range(3):
            told = desk.book()
            told[6][3] = 3
            self.spoil(told)
            self.assertEqual(desk.book(), BOOK + [SHUT])
        told = desk.book()
        desk.take_row(6)
        desk.put_row(6, ["work", "door"])
        self.assertEqual(told, BOOK + [SHUT])
        desk.back()
        desk.back()
        desk.back()
        self.assertEqual(desk.book(), BOOK)
        self.assertEqual(told, BOOK + [SHUT])

    def test_each_list_told_is_a_new_one(self):
        handed = copy.deepcopy(CROWDED)
        desk = Desk(handed)
        things = [handed, desk.book(), desk.book(), desk.answer(), desk.answer(), desk.book()]
        desk.put_row(1, ["work", "door"])
        things += [desk.book(), desk.answer()]
        desk.back()
        things += [desk.book(), desk.answer()]
        parts = [part for thing in things for part in self.inner(thing)]
        self.assertEqual(len({id(part) for part in parts}), len(parts))

    def test_the_papers_told_changed_between_the_answers(self):
        # Works that are alike: the papers have lists of every kind in their lines.
        alike = [["days", 4], ["bench", "saw", 3]]
        for work in "abcd":
            alike += [["work", work], ["way", work, "q", 2, 5], ["uses", work, "q", "saw", 2]]
        for book in (BOOK, CROWDED, alike):
            one, other = Desk(book), Desk(book)
            for row in (["bench", "plane", 1], ["shut", "plane", 0, 1], ["work", "door"], ["way", "door", "q", 1, 1]):
                told, kept = one.answer(), other.answer()
                self.assertEqual(told, kept)
                self.spoil(told)
                for desk in (one, other):
                    desk.put_row(len(desk.book()), row)
            self.assertEqual(one.answer(), other.answer())

    def test_what_was_told_stays(self):
        desk = Desk(CROWDED)
        told = [desk.answer()]
        kept = [copy.deepcopy(told[0])]
        for row in (["bench", "plane", 1], ["late", "a", 1, 1]):
            desk.put_row(len(desk.book()), row)
            told.append(desk.answer())
            kept.append(copy.deepcopy(told[-1]))
        desk.back()
        desk.answer()
        self.assertEqual(told, kept)


if __name__ == "__main__":
    unittest.main()
