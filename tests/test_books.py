"""Books: what is one, how it is written, and how a text is read."""

import copy
import random
import unittest

from nonebetter.books import looked, read, written
from nonebetter.errors import NoBook, PlanError

# A book with rows of every form.
BOOK = [
    ["days", 5],
    ["bench", "saw", 3],
    ["shut", "saw", 1, 3],
    ["store", "planks", 20, 4],
    ["work", "chair"],
    ["way", "chair", "quick", 2, 150],
    ["uses", "chair", "quick", "saw", 2],
    ["takes", "chair", "quick", "planks", 4],
    ["gives", "chair", "quick", "planks", 1],
    ["work", "table"],
    ["way", "table", "quick", 5, 0],
    ["after", "chair", "table", 1],
    ["late", "chair", 3, 10],
]

TEXT = """days 5
bench saw 3
shut saw 1 3
store planks 20 4
work chair
way chair quick 2 150
uses chair quick saw 2
takes chair quick planks 4
gives chair quick planks 1
work table
way table quick 5 0
after chair table 1
late chair 3 10
"""

# What may stand in the place of a number, a name or a row, and is none; texts that are names are not among them.
STRANGE = (
    None, True, False, "", "1", "A", "a1", "a b", " a", "a\n", "a_", "-", "abcdefghijklm", "ä", "aé", "ｂ", "0", (),
    (1,), ("a",), [], [1], ["a"], ["days", 5], [[]], ((),),
)
NO_NUMBER = STRANGE + ("a", "days", "saw")
NO_NAME = STRANGE + (0, 1, -1, 5, 10 ** 30)


def row_refused(rows):
    """The row with which a list is refused, or None."""
    ahead = copy.deepcopy(rows)
    try:
        told = looked(rows)
    except NoBook as error:
        told = error.row
        assert isinstance(error, PlanError) and type(told) is int
    assert rows == ahead
    return told


def text_refused(text):
    """The row with which a text is refused, or None."""
    try:
        read(text)
    except NoBook as error:
        assert isinstance(error, PlanError) and type(error.row) is int
        return error.row
    return None


class BookCase(unittest.TestCase):
    def assert_book(self, rows):
        self.assertIsNone(row_refused(rows), rows)
        text = written(rows)
        self.assertIs(type(text), str)
        self.assertEqual(read(text), rows)

    def assert_no_book(self, rows, row):
        self.assertEqual(row_refused(rows), row, rows)

    def assert_row(self, ahead, row):
        """The row may stand behind these."""
        self.assert_book(ahead + [row])

    def assert_no_row(self, ahead, row):
        self.assert_no_book(ahead + [row], len(ahead))
        # What stands behind it does not count.
        self.assert_no_book(ahead + [row, None], len(ahead))
        self.assert_no_book(ahead + [row] + BOOK, len(ahead))

    def assert_bounds(self, ahead, row, place, least, most):
        """The number at a place of the row goes from least to most."""
        for number in (least, least + 1, most - 1, most):
            if least <= number <= most:
                self.assert_row(ahead, row[:place] + [number] + row[place + 1:])
        for number in (least - 1, most + 1, -1, -most, most + 10, 10 * most + 10, 10 ** 18, 10 ** 30, -10 ** 30):
            if not least <= number <= most:
                self.assert_no_row(ahead, row[:place] + [number] + row[place + 1:])


class Names(BookCase):
    def test_letters(self):
        for name in ("a", "z", "m", "az", "zzz", "abcdefghijkl", "mnopqrstuvwx", "yz", "aaaaaaaaaaaa"):
            self.assert_row([["days", 1]], ["bench", name, 1])
            self.assert_row([["days", 1]], ["store", name, 1, 1])
            self.assert_row([["days", 1]], ["work", name])
            self.assert_row([["days", 1], ["work", "a"]], ["way", "a", name, 1, 0])

    def test_none_and_too_many(self):
        for name in ("", "abcdefghijklm", "a" * 13, "a" * 100):
            self.assert_no_row([["days", 1]], ["bench", name, 1])
            self.assert_no_row([["days", 1]], ["store", name, 1, 1])
            self.assert_no_row([["days", 1]], ["work", name])
            self.assert_no_row([["days", 1], ["work", "a"]], ["way", "a", name, 1, 0])

    def test_other_signs(self):
        # The signs beside a and z among them.
        for sign in "`{@[AZ019 _-.\n\t\r\0äßéаａ²":
            for name in (sign, "a" + sign, sign + "a", "a" + sign + "z"):
                self.assert_no_row([["days", 1]], ["bench", name, 1])
                self.assert_no_row([["days", 1]], ["work", name])

    def test_words_may_be_names(self):
        book = [["days", 2], ["work", "work"], ["way", "work", "way", 1, 0], ["bench", "days", 1],
                ["store", "store", 1, 0], ["uses", "work", "way", "days", 1], ["takes", "work", "way", "store", 1],
                ["shut", "days", 0, 1]]
        self.assert_book(book)

    def test_the_same_name_for_unlike_things(self):
        self.assert_book([
            ["days", 2], ["bench", "a", 1], ["store", "a", 1, 1], ["work", "a"], ["way", "a", "a", 1, 1],
            ["uses", "a", "a", "a", 1], ["takes", "a", "a", "a", 1], ["gives", "a", "a", "a", 1], ["late", "a", 1, 1],
            ["work", "b"], ["way", "b", "a", 1, 1], ["after", "a", "b", 1],
        ])


class Forms(BookCase):
    def test_every_form(self):
        self.assert_book(BOOK)
        for count in range(1, len(BOOK)):
            self.assert_book(BOOK[:count])

    def test_no_rows(self):
        self.assert_no_book([], 0)

    def test_days_alone(self):
        self.assert_book([["days", 1]])

    def test_each_place_of_each_row(self):
        for number, row in enumerate(BOOK):
            for place in range(1, len(row)):
                for thing in NO_NAME if isinstance(row[place], str) else NO_NUMBER:
                    self.assert_no_row(BOOK[:number], row[:place] + [thing] + row[place + 1:])

    def test_other_words(self):
        for number, row in enumerate(BOOK):
            others = ("Days", "day", "dayss", "benches", "a", "saw", "chair", " " + row[0], row[0] + " ", 0, 1)
            for word in STRANGE + others:
                self.assert_no_row(BOOK[:number], [word] + row[1:])

    def test_words_of_other_forms(self):
        for number, row in enumerate(BOOK):
            for other in BOOK:
                if [type(thing) for thing in other] != [type(thing) for thing in row]:
                    self.assert_no_row(BOOK[:number], other[:1] + row[1:])

    def test_too_few_and_too_many(self):
        for number, row in enumerate(BOOK):
            for count in range(len(row)):
                self.assert_no_row(BOOK[:number], row[:count])
            for place in range(1, len(row)):
                self.assert_no_row(BOOK[:number], row[:place] + row[place + 1:])
            for thing in (0, 1, "a", row[-1], None, []):
                self.assert_no_row(BOOK[:number], row + [thing])
                self.assert_no_row(BOOK[:number], row[:1] + [thing] + row[1:])

    def test_things_in_another_order(self):
        for number, row in enumerate(BOOK):
            self.assert_no_row(BOOK[:number], row[::-1])
            self.assert_no_row(BOOK[:number], row[1:] + row[:1])

    def test_rows_that_are_no_lists(self):
        for number, row in enumerate(BOOK):
            for thing in (
                None, True, False, 0, 5, "", "days", row[0], " ".join(map(str, row)), (), tuple(row), [], [row], (row,),
                [[]], [tuple(row)], [None], [0], [""], [True],
            ):
                self.assert_no_row(BOOK[:number], thing)


class Bounds(BookCase):
    def test_days(self):
        self.assert_bounds([], ["days", 1], 1, 1, 12)

    def test_bench(self):
        self.assert_bounds([["days", 1]], ["bench", "a", 1], 2, 0, 99)

    def test_shut(self):
        for days in (1, 2, 5, 12):
            ahead = [["days", days], ["bench", "a", 1]]
            for begin in range(-2, days + 3):
                for end in range(-2, days + 3):
                    row = ["shut", "a", begin, end]
                    if 0 <= begin < end <= days:
                        self.assert_row(ahead, row)
                    else:
                        self.assert_no_row(ahead, row)
            self.assert_no_row(ahead, ["shut", "a", 0, 10 ** 30])
            self.assert_no_row(ahead, ["shut", "a", -10 ** 30, 1])

    def test_store(self):
        self.assert_bounds([["days", 1]], ["store", "a", 0, 0], 2, 0, 999)
        for most in (0, 1, 7, 999):
            self.assert_bounds([["days", 1]], ["store", "a", most, 0], 3, 0, most)
            self.assert_no_row([["days", 1]], ["store", "a", most, most + 1])
        self.assert_row([["days", 1]], ["store", "a", 999, 999])
        self.assert_no_row([["days", 1]], ["store", "a", 1000, 1000])
        self.assert_no_row([["days", 1]], ["store", "a", -1, -1])
        self.assert_no_row([["days", 1]], ["store", "a", -1, -2])

    def test_way(self):
        for days in (1, 2, 12):
            ahead = [["days", days], ["work", "a"]]
            self.assert_bounds(ahead, ["way", "a", "b", 1, 0], 3, 1, days)
            self.assert_bounds(ahead, ["way", "a", "b", 1, 0], 4, 0, 999999)

    def test_uses_takes_and_gives(self):
        ahead = [["days", 3], ["work", "a"], ["way", "a", "b", 1, 0], ["bench", "c", 0], ["store", "c", 0, 0]]
        for word in ("uses", "takes", "gives"):
            self.assert_bounds(ahead, [word, "a", "b", "c", 1], 4, 1, 99)

    def test_after(self):
        for days in (1, 2, 12):
            self.assert_bounds([["days", days], ["work", "a"], ["work", "b"]], ["after", "a", "b", 0], 3, 0, days)

    def test_late(self):
        for days in (1, 2, 12):
            ahead = [["days", days], ["work", "a"]]
            self.assert_bounds(ahead, ["late", "a", 0, 1], 2, 0, days)
            self.assert_bounds(ahead, ["late", "a", 0, 1], 3, 1, 999999)

    def test_what_is_not_bounded(self):
        # How many works and the like there are is bounded for what is handed in, but nothing is refused for it.
        letters = "abcdefgh"
        book = [["days", 12]]
        for name in letters:
            book += [["bench", name, 1], ["store", name, 1, 1], ["work", name]]
            book += [["way", name, way, 1, 0] for way in letters]
        self.assert_book(book)
        self.assert_book([["days", 12], ["bench", "a", 1]] + [["shut", "a", 0, 12]] * 600)


class Ahead(BookCase):
    def test_days_missing(self):
        self.assert_no_book(BOOK[1:], 0)
        for row in BOOK[1:]:
            self.assert_no_book([row], 0)
            self.assert_no_book([row, ["days", 5]], 0)

    def test_days_not_first(self):
        self.assert_no_book([["bench", "a", 1], ["days", 5]], 0)
        self.assert_no_book([["work", "a"]] + BOOK, 0)

    def test_days_twice(self):
        for number in range(1, len(BOOK) + 1):
            for days in (5, 6, 1):
                self.assert_no_row(BOOK[:number], ["days", days])

    def test_what_is_named_is_not_there(self):
        for number, row in enumerate(BOOK):
            for place in range(1, len(row)):
                is_new = row[0] in ("bench", "store", "work") or (row[0], place) == ("way", 2)
                if isinstance(row[place], str) and not is_new:
                    for name in ("a", "days", "quick" if row[place] != "quick" else "slow", "cha"):
                        self.assert_no_row(BOOK[:number], row[:place] + [name] + row[place + 1:])

    def test_what_is_named_stands_only_behind(self):
        # Each row that is moved ahead of one that it needs is against this; or that one, where it is the needed one.
        for later in range(1, len(BOOK)):
            for number in range(1, later):
                rows = BOOK[:number] + [BOOK[later]] + BOOK[number:later] + BOOK[later + 1:]
                needed = self.needed(BOOK[later])
                ahead = [self.said(row) for row in BOOK[:number]]
                if all(need in ahead for need in needed):
                    self.assert_book(rows)
                else:
                    self.assert_no_book(rows, number)

    def test_what_is_named_is_taken_out(self):
        for number in range(1, len(BOOK)):
            rows = BOOK[:number] + BOOK[number + 1:]
            gone = self.said(BOOK[number])
            later = [place for place, row in enumerate(rows) if gone in self.needed(row)]
            if later:
                self.assert_no_book(rows, later[0])
            else:
                self.assert_book(rows)

    def said(self, row):
        return tuple(row[:3]) if row[0] == "way" else tuple(row[:2])

    def needed(self, row):
        word = row[0]
        if word in ("uses", "takes", "gives"):
            return [("way", row[1], row[2]), ("bench" if word == "uses" else "store", row[3])]
        if word == "after":
            return [("work", row[1]), ("work", row[2])]
        if word in ("way", "late"):
            return [("work", row[1])]
        return [("bench", row[1])] if word == "shut" else []

    def test_a_way_of_another_work(self):
        ahead = [["days", 2], ["work", "a"], ["work", "b"], ["way", "a", "v", 1, 0], ["way", "b", "w", 1, 0],
                 ["bench", "c", 1], ["store", "c", 1, 1]]
        for word in ("uses", "takes", "gives"):
            self.assert_row(ahead, [word, "a", "v", "c", 1])
            self.assert_row(ahead, [word, "b", "w", "c", 1])
            self.assert_no_row(ahead, [word, "a", "w", "c", 1])
            self.assert_no_row(ahead, [word, "b", "v", "c", 1])

    def test_a_thing_of_another_kind_with_this_name(self):
        for ahead, row in (
            ([["store", "a", 1, 1], ["work", "a"]], ["shut", "a", 0, 1]),
            ([["store", "a", 1, 1], ["bench", "a", 1]], ["way", "a", "b", 1, 0]),
            ([["store", "a", 1, 1], ["bench", "a", 1]], ["late", "a", 1, 1]),
            ([["work", "a"], ["bench", "b", 1], ["store", "b", 1, 1]], ["after", "a", "b", 0]),
            ([["work", "a"], ["bench", "b", 1], ["store", "b", 1, 1]], ["after", "b", "a", 0]),
            ([["work", "a"], ["way", "a", "b", 1, 0], ["store", "c", 1, 1]], ["uses", "a", "b", "c", 1]),
            ([["work", "a"], ["way", "a", "b", 1, 0], ["bench", "c", 1]], ["takes", "a", "b", "c", 1]),
            ([["work", "a"], ["way", "a", "b", 1, 0], ["bench", "c", 1]], ["gives", "a", "b", "c", 1]),
        ):
            self.assert_no_row([["days", 2]] + ahead, row)

    def test_a_work_behind_itself(self):
        for gap in (0, 1, 5):
            self.assert_no_row(BOOK, ["after", "chair", "chair", gap])


class Twice(BookCase):
    def test_what_may_not_be_said_twice(self):
        for row in BOOK[1:]:
            if row[0] == "shut":
                self.assert_row(BOOK, row)
            else:
                self.assert_no_row(BOOK, list(row))

    def test_with_other_numbers(self):
        for row in (
            ["bench", "saw", 0], ["store", "planks", 7, 0], ["way", "chair", "quick", 1, 1],
            ["uses", "chair", "quick", "saw", 9], ["takes", "chair", "quick", "planks", 9],
            ["gives", "chair", "quick", "planks", 9], ["after", "chair", "table", 0], ["late", "chair", 0, 1],
        ):
            self.assert_no_row(BOOK, row)

    def test_shut_as_often_as_one_likes(self):
        more = [["shut", "saw", 1, 3], ["shut", "saw", 1, 3], ["shut", "saw", 0, 5], ["shut", "saw", 2, 4]]
        self.assert_book(BOOK + more)

    def test_what_is_not_the_same(self):
        more = [
            ["bench", "axe", 3], ["store", "nails", 20, 4], ["work", "bed"], ["way", "chair", "slow", 2, 150],
            ["uses", "table", "quick", "saw", 2], ["uses", "chair", "slow", "saw", 2],
            ["uses", "chair", "quick", "axe", 2],
            ["takes", "table", "quick", "planks", 4], ["takes", "chair", "slow", "planks", 4],
            ["takes", "chair", "quick", "nails", 4], ["gives", "table", "quick", "planks", 4],
            ["gives", "chair", "slow", "planks", 4], ["gives", "chair", "quick", "nails", 4],
            ["after", "table", "chair", 1], ["after", "chair", "bed", 1], ["after", "bed", "table", 1],
            ["late", "table", 3, 10], ["late", "bed", 3, 10],
        ]
        self.assert_book(BOOK + more)
        for row in more:
            self.assert_no_row(BOOK + more, row)


class FirstRow(BookCase):
    def test_where_several_are_against_it(self):
        chance = random.Random(140)
        wrong = (None, [], ["days", 5], ["bench", "saw", 100], ["work", ""], ["work", "chair", 1], ("work", "b"),
                 ["late", 1])
        for _ in range(300):
            rows = copy.deepcopy(BOOK)
            places = sorted(chance.sample(range(1, len(rows)), chance.randint(1, 4)))
            for place in places:
                rows[place] = chance.choice(wrong)
            self.assert_no_book(rows, places[0])

    def test_the_first_row_and_others(self):
        self.assert_no_book([None, None], 0)
        self.assert_no_book([["days", 13]] + BOOK[1:], 0)
        self.assert_no_book([["days", 0], None], 0)
        # With fewer days other rows are against it.
        self.assert_no_book([["days", 2]] + BOOK[1:], 2)
        self.assert_no_book([["days", 4]] + BOOK[1:], 10)
        self.assert_book([["days", 6]] + BOOK[1:])

    def test_a_row_that_names_a_wrong_one(self):
        self.assert_no_book(BOOK[:4] + [["work", "Chair"]] + BOOK[5:], 4)


class Written(BookCase):
    def test_every_form(self):
        self.assertEqual(written(BOOK), TEXT)
        self.assertEqual(read(TEXT), BOOK)

    def test_days_alone(self):
        self.assertEqual(written([["days", 12]]), "days 12\n")
        self.assertEqual(read("days 12\n"), [["days", 12]])

    def test_numbers(self):
        rows = [["days", 12], ["bench", "a", 0], ["bench", "b", 9], ["bench", "c", 10], ["bench", "d", 99],
                ["store", "a", 999, 100], ["work", "a"], ["way", "a", "b", 10, 999999], ["way", "a", "c", 1, 100000]]
        text = ("days 12\nbench a 0\nbench b 9\nbench c 10\nbench d 99\nstore a 999 100\nwork a\nway a b 10 999999\n"
                "way a c 1 100000\n")
        self.assertEqual(written(rows), text)
        self.assertEqual(read(text), rows)

    def test_kinds(self):
        for row in read(TEXT):
            self.assertIs(type(row), list)
            for thing in row:
                self.assertIn(type(thing), (str, int))

    def test_five_hundred_rows(self):
        book = BOOK + [["shut", "saw", number % 5, 5] for number in range(500 - len(BOOK))]
        self.assert_book(book)

    def test_any_books(self):
        chance = random.Random(141)
        for _ in range(200):
            rows = [["days", chance.randint(1, 12)]]
            for _ in range(80):
                row = self.any_row(chance, rows[0][1])
                if row_refused(rows + [row]) is None:
                    rows.append(row)
            self.assertGreater(len(rows), 8)
            self.assert_book(rows)

    def any_row(self, chance, days):
        def name():
            return chance.choice(("a", "b", "c"))

        def day():
            return chance.randint(0, days)

        return chance.choice((
            ["bench", name(), chance.randint(0, 99)], ["shut", name(), day(), day()], ["work", name()],
            ["store", name(), chance.randint(0, 999), chance.randint(0, 999)],
            ["way", name(), name(), day(), chance.randint(0, 999999)],
            ["uses", name(), name(), name(), chance.randint(1, 99)],
            ["takes", name(), name(), name(), chance.randint(1, 99)],
            ["gives", name(), name(), name(), chance.randint(1, 99)],
            ["after", name(), name(), day()], ["late", name(), day(), chance.randint(1, 999999)],
        ))


class Read(BookCase):
    def assert_refused(self, text, row):
        self.assertEqual(text_refused(text), row, text)

    def assert_line_wrong(self, number, line):
        """With this line in the place of one of the text it is refused."""
        lines = TEXT.split("\n")[:-1]
        self.assert_refused("".join(other + "\n" for other in lines[:number] + [line] + lines[number + 1:]), number)
        # What stands behind it does not count.
        self.assert_refused("".join(other + "\n" for other in lines[:number] + [line] + ["no row", ""]), number)
        self.assert_refused("".join(other + "\n" for other in lines[:number] + [line]) + "work", number)
        # It is wrong without a line end too.
        self.assert_refused("".join(other + "\n" for other in lines[:number]) + line, number)

    def test_no_rows(self):
        self.assert_refused("", 0)
        self.assert_refused("\n", 0)
        self.assert_refused("\n\n", 0)
        self.assert_refused(" ", 0)
        self.assert_refused(" \n", 0)
        self.assert_refused("\n" + TEXT, 0)

    def test_numbers_otherwise_written(self):
        for number, row in enumerate(BOOK):
            for place, thing in enumerate(row):
                if isinstance(thing, int):
                    for figures in (
                        f"0{thing}", f"00{thing}", f"+{thing}", f"-{thing}", f"{thing}.0", f"{thing}.", f"{thing}e0",
                        f"_{thing}", f"{thing}_", f"0x{thing}", f"{thing}a", f"a{thing}", "", "a", "-0", "+0", "00",
                        "0_0", "\u0661", "\u00b2", "\uff11", f"{thing}\u0660", "None", "True", f"({thing})",
                        f"{thing},", "1" * 30, "9" * 5000,
                    ):
                        words = [str(word) for word in row]
                        words[place] = figures
                        self.assert_line_wrong(number, " ".join(words))

    def test_nought(self):
        self.assertEqual(read("days 5\nbench a 0\n"), [["days", 5], ["bench", "a", 0]])
        self.assert_refused("days 5\nbench a 00\n", 1)
        self.assert_refused("days 5\nbench a -0\n", 1)
        self.assert_refused("days 5\nbench a 01\n", 1)
        self.assert_refused("days 05\nbench a 1\n", 0)

    def test_blanks(self):
        for number, row in enumerate(BOOK):
            words = [str(word) for word in row]
            line = " ".join(words)
            for blank in (" ", "  ", "\t", "\r", "\0", "\u00a0"):
                self.assert_line_wrong(number, blank + line)
                self.assert_line_wrong(number, line + blank)
            for place in range(1, len(words)):
                for blank in (
                    "  ", "   ", "\t", " \t", "\t ", "", ",", ", ", "\u00a0", "\u2003", "\r", "\x0b", "\x0c", "\x1f",
                    "\x85",
                ):
                    self.assert_line_wrong(number, " ".join(words[:place]) + blank + " ".join(words[place:]))

    def test_empty_rows(self):
        lines = TEXT.split("\n")[:-1]
        for number in range(len(lines) + 1):
            for empty in ("", " ", "\t"):
                self.assert_refused("".join(line + "\n" for line in lines[:number] + [empty] + lines[number:]), number)

    def test_a_row_behind_which_no_line_end_stands(self):
        lines = TEXT.split("\n")[:-1]
        for number in range(len(lines)):
            self.assert_refused("\n".join(lines[:number + 1]), number)
            self.assertEqual(len(read("\n".join(lines[:number + 1]) + "\n")), number + 1)
        self.assert_refused(TEXT + " ", len(lines))
        self.assert_refused(TEXT + "x", len(lines))
        self.assert_refused("days 5", 0)
        # A wrong one ahead of it is told.
        self.assert_refused("days 5\nbench A 3\nwork a", 1)
        self.assert_refused("days 13\nwork a", 0)

    def test_other_line_ends(self):
        for end in (
            "\r\n", "\r", "\n\r", "\x0b", "\x0c", "\x1c", "\x1d", "\x1e", "\x85", "\u2028", "\u2029", ";", "\\n",
        ):
            text = TEXT.replace("\n", end)
            self.assert_refused(text, 1 if end == "\n\r" else 0)
            # The third one alone.
            lines = TEXT.split("\n")
            mixed = "\n".join(lines[:2]) + "\n" + lines[2] + end + "\n".join(lines[3:])
            self.assert_refused(mixed, 3 if end == "\n\r" else 2)

    def test_well_written_but_no_book(self):
        for number, row in enumerate(BOOK[1:], 1):
            if row[0] != "shut":
                rows = BOOK[:number + 1] + [row] + BOOK[number + 1:]
                self.assert_refused(written(rows), number + 1)
        self.assert_refused(written(BOOK[1:]), 0)
        self.assert_refused(written(BOOK[:4] + BOOK[5:]), 4)
        self.assert_refused("days 0\n", 0)
        self.assert_refused("days 13\n", 0)
        self.assert_refused("days 5\ndays 5\n", 1)
        self.assert_refused("days 5\nbench a 100\n", 1)
        self.assert_refused("days 5\nbench abcdefghijklm 10\n", 1)
        self.assert_refused("days 5\nbench 1 10\n", 1)
        self.assert_refused("days 5\nwork\n", 1)
        self.assert_refused("days\n", 0)
        self.assert_refused("5\n", 0)
        self.assert_refused("days 5\nwork a b\n", 1)

    def test_each_row_as_with_looked(self):
        # A text of things that are words or numbers is refused where the list of them is.
        chance = random.Random(142)
        seen = {}
        for _ in range(2000):
            rows = copy.deepcopy(BOOK)
            for _ in range(chance.randint(1, 2)):
                row = chance.choice(rows)
                place = chance.randrange(len(row))
                deed = chance.randint(0, 3)
                if deed == 0 and len(row) > 1:
                    del row[place]
                elif deed == 1:
                    row.insert(place, chance.choice(("a", 1)))
                else:
                    row[place] = chance.choice(("a", "saw", "quick", "table", "store", 0, 1, 99, 1000))
            asked = row_refused(rows)
            seen[asked] = True
            self.assertEqual(text_refused(written(rows)), asked, rows)
        self.assertEqual(len(seen), len(BOOK) + 1)

    def test_where_several_are_wrong(self):
        chance = random.Random(143)
        wrong = ("", " ", "days 5", "work  a", "bench saw 03", "late chair 3 10 ", "nothing", "work A", "shut saw 3 1")
        for _ in range(300):
            lines = TEXT.split("\n")[:-1]
            places = sorted(chance.sample(range(1, len(lines)), chance.randint(1, 4)))
            for place in places:
                lines[place] = chance.choice(wrong)
            end = chance.choice(("\n", ""))
            self.assert_refused("\n".join(lines) + end, places[0])

    def test_sixty_thousand_signs(self):
        self.assert_refused("a" * 60000, 0)
        self.assert_refused("\n" * 60000, 0)
        self.assert_refused(" " * 60000, 0)
        self.assert_refused("days " + "9" * 59000 + "\n", 0)
        self.assert_refused("days 5\nwork " + "a" * 59000 + "\n", 1)
        self.assertEqual(len(read("days 9\nbench a 1\n" + "shut a 1 2\n" * 5400)), 5402)


class Told(BookCase):
    def test_nothing_is_told_of_a_book(self):
        self.assertIsNone(looked(BOOK))

    def test_what_was_told_is_the_askers_own(self):
        told = read(TEXT)
        self.assertEqual(len({id(row) for row in told}), len(told))
        for row in told:
            row.clear()
        told.clear()
        self.assertEqual(read(TEXT), BOOK)
        self.assertEqual(written(BOOK), TEXT)

    def test_changing_what_was_handed_in_behind(self):
        book = copy.deepcopy(BOOK)
        text = written(book)
        self.assertIsNone(looked(book))
        book[1].clear()
        self.assertEqual(text, TEXT)
        with self.assertRaises(NoBook) as caught:
            looked(book)
        book.clear()
        self.assertEqual(caught.exception.row, 1)
        self.assertIsNone(looked(BOOK))

    def test_nothing_handed_in_is_changed(self):
        book = copy.deepcopy(BOOK)
        looked(book)
        written(book)
        self.assertEqual(book, BOOK)


if __name__ == "__main__":
    unittest.main()
