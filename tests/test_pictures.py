"""Pictures of plans: drawn, seen, and refused."""

import copy
import itertools
import random
import unittest

from nonebetter.books import looked
from nonebetter.errors import NoBook, NoNumber, NoPicture, NoStep, PlanError
from nonebetter.pictures import drawn, plan_seen
from nonebetter.plans import broken

BOOK = [
    ["days", 5],
    ["bench", "saw", 40],
    ["work", "chair"],
    ["bench", "longestbench", 9],
    ["shut", "saw", 0, 1],
    ["store", "planks", 9, 4],
    ["way", "chair", "slow", 3, 50],
    ["way", "chair", "q", 1, 90],
    ["uses", "chair", "slow", "saw", 12],
    ["uses", "chair", "q", "saw", 7],
    ["takes", "chair", "slow", "planks", 3],
    ["work", "longestnamed"],
    ["way", "longestnamed", "longestnames", 5, 30],
    ["uses", "longestnamed", "longestnames", "longestbench", 9],
    ["work", "x"],
    ["way", "x", "q", 2, 1],
    ["uses", "x", "q", "saw", 5],
    ["takes", "x", "q", "planks", 1],
    ["after", "chair", "x", 0],
]

PLAN = {"chair": ("q", 1), "longestnamed": ("longestnames", 0), "x": ("q", 2)}

PICTURE = """chair        .#... q
longestnamed ##### longestnames
x            ..##. q
saw          0007050500
longestbench 0909090909
"""

ROWS = PICTURE.split("\n")[:-1]


def text_of(rows):
    return "".join(row + "\n" for row in rows)


def plans_of(book):
    """All plans of a book, kept or broken."""
    works = [row[1] for row in book if row[0] == "work"]
    ways = [[(row[2], begin) for row in book if row[:2] == ["way", work] for begin in range(book[0][1] - row[3] + 1)]
            for work in works]
    return [dict(zip(works, taken)) for taken in itertools.product(*ways)]


def picture_of(book, plan):
    """The picture of any plan, kept or broken, sign by sign."""
    lengths = {tuple(row[1:3]): row[3] for row in book if row[0] == "way"}
    text = ""
    for work in [row[1] for row in book if row[0] == "work"]:
        way, begin = plan[work]
        signs = ["."] * book[0][1]
        for day in range(begin, begin + lengths[work, way]):
            signs[day] = "#"
        text += work + " " * (13 - len(work)) + "".join(signs) + " " + way + "\n"
    for bench in [row[1] for row in book if row[0] == "bench"]:
        used = [0] * book[0][1]
        for row in book:
            if row[0] == "uses" and row[3] == bench and plan[row[1]][0] == row[2]:
                begin = plan[row[1]][1]
                for day in range(begin, begin + lengths[row[1], row[2]]):
                    used[day] += row[4]
        text += bench + " " * (13 - len(bench)) + "".join("%02d" % many for many in used) + "\n"
    return text


def some_book(chance):
    """A small book in which some plans are kept and some are broken."""
    days = chance.randint(1, 4)
    works, benches = ("c", "bb", "azazazazazaz")[:chance.randint(0, 3)], ("y", "xx")[:chance.randint(0, 2)]
    rows = [["work", work] for work in works] + [["bench", bench, chance.randint(2, 60)] for bench in benches]
    chance.shuffle(rows)
    for bench in benches:
        if chance.randrange(3) == 0:
            rows.append(["shut", bench, 0, 1])
    for work in works:
        for way in ("r", "qq")[:chance.randint(1, 2)]:
            rows.append(["way", work, way, chance.randint(1, days), 5])
            rows += [["uses", work, way, bench, chance.randint(1, 30)] for bench in benches if chance.randrange(3)]
    for pair in itertools.combinations(works, 2):
        if chance.randrange(4) == 0:
            rows.append(["after", *pair, 0])
    return [["days", days]] + rows


class PictureCase(unittest.TestCase):
    def assert_refused(self, row, book, text):
        """The text is refused with the row, and nothing is changed."""
        ahead = copy.deepcopy(book)
        with self.assertRaises(NoPicture, msg=text) as caught:
            plan_seen(book, text)
        self.assertEqual(caught.exception.row, row, text)
        self.assertEqual(book, ahead)

    def assert_picture(self, book, plan, text):
        """The text is the picture of the plan, which is kept, and is seen as it."""
        looked(book)
        ahead = copy.deepcopy((book, plan))
        self.assertIsNone(broken(book, plan))
        self.assertEqual(drawn(book, plan), text)
        told = plan_seen(book, text)
        self.assertEqual(told, plan)
        self.assertEqual([type(told)] + [type(pair) for pair in told.values()], [dict] + [tuple] * len(plan))
        self.assertEqual((book, plan), ahead)


class Drawn(PictureCase):
    def test_names_benches_and_figures(self):
        self.assert_picture(BOOK, PLAN, PICTURE)

    def test_another_way_and_day(self):
        book = copy.deepcopy(BOOK)
        book[0][1] = 6
        plan = {"x": ("q", 4), "longestnamed": ("longestnames", 1), "chair": ("slow", 1)}
        self.assert_picture(book, plan, text_of([
            "chair        .###.. slow", "longestnamed .##### longestnames", "x            ....## q",
            "saw          001212120505", "longestbench 000909090909"]))

    def test_works_of_one_day_and_of_all_days(self):
        book = [["days", 3], ["work", "a"], ["way", "a", "q", 1, 0], ["way", "a", "r", 3, 0]]
        for begin, signs in enumerate(("#..", ".#.", "..#")):
            self.assert_picture(book, {"a": ("q", begin)}, f"a            {signs} q\n")
        self.assert_picture(book, {"a": ("r", 0)}, "a            ### r\n")
        book = [["days", 1], ["work", "a"], ["way", "a", "q", 1, 0]]
        self.assert_picture(book, {"a": ("q", 0)}, "a            # q\n")

    def test_twelve_days(self):
        book = [["days", 12], ["bench", "saw", 99], ["work", "abcdefghijkl"], ["way", "abcdefghijkl", "zyxwvutsrqpo", 11, 3],
                ["uses", "abcdefghijkl", "zyxwvutsrqpo", "saw", 99]]
        self.assert_picture(book, {"abcdefghijkl": ("zyxwvutsrqpo", 1)},
                            "abcdefghijkl .########### zyxwvutsrqpo\nsaw          00" + "99" * 11 + "\n")

    def test_without_works_and_without_benches(self):
        self.assert_picture([["days", 2]], {}, "")
        self.assert_picture([["days", 2], ["store", "oil", 3, 1]], {}, "")
        self.assert_picture([["days", 2], ["bench", "b", 3], ["bench", "a", 0]], {}, "b            0000\na            0000\n")
        book = [["days", 2], ["work", "b"], ["work", "a"], ["way", "a", "q", 1, 1], ["way", "b", "q", 2, 1]]
        self.assert_picture(book, {"a": ("q", 1), "b": ("q", 0)}, "b            ## q\na            .# q\n")

    def test_works_and_benches_of_one_name(self):
        book = [["days", 2], ["bench", "a", 12], ["work", "a"], ["way", "a", "a", 1, 1], ["uses", "a", "a", "a", 10]]
        self.assert_picture(book, {"a": ("a", 1)}, "a            .# a\na            0010\n")

    def test_what_is_used_together(self):
        book = [["days", 3], ["bench", "saw", 99]]
        for work, many in (("a", 9), ("b", 1), ("c", 89)):
            book += [["work", work], ["way", work, "q", 2, 0], ["uses", work, "q", "saw", many]]
        self.assert_picture(book, {"a": ("q", 0), "b": ("q", 1), "c": ("q", 1)},
                            "a            ##. q\nb            .## q\nc            .## q\nsaw          099990\n")

    def test_all_plans_of_small_books(self):
        chance = random.Random(41)
        counts = {True: 0, False: 0}
        for _ in range(80):
            book = some_book(chance)
            looked(book)
            works = len([row for row in book if row[0] == "work"])
            for plan in plans_of(book):
                text = picture_of(book, plan)
                is_kept = broken(book, plan) is None
                counts[is_kept] += 1
                if is_kept:
                    self.assert_picture(book, plan, text)
                else:
                    # Up to 90 is used of a bench, which two figures can tell: all rows are as told.
                    self.assert_refused(len(text.split("\n")) - 1, book, text)
                    self.assertGreater(works, 0)
        self.assertGreater(min(counts.values()), 300, counts)


class Signs(PictureCase):
    """One sign is put in, taken out or exchanged."""

    def test_each_sign_taken_out(self):
        for place in range(len(PICTURE)):
            row = PICTURE[:place].count("\n")
            self.assert_refused(row, BOOK, PICTURE[:place] + PICTURE[place + 1:])

    def test_each_sign_exchanged(self):
        for place, here in enumerate(PICTURE):
            row = PICTURE[:place].count("\n")
            for sign in " .#0a\n\tA\r":
                # A figure for a figure is another number: this comes last, and so its row is the one that is told.
                if sign != here:
                    self.assert_refused(row, BOOK, PICTURE[:place] + sign + PICTURE[place + 1:])

    def test_a_sign_put_in_at_each_place(self):
        for place in range(len(PICTURE) + 1):
            for sign in " .#0q\n\t\r":
                text = PICTURE[:place] + sign + PICTURE[place:]
                # Of alike signs beside one another it is the last one that is put in.
                row = PICTURE[:place].count("\n")
                if sign == "\n" and PICTURE[place:place + 1] == "\n":
                    row += 1
                self.assert_refused(row, BOOK, text)

    def test_an_empty_text_and_line_ends_alone(self):
        for text in ("", "\n", "\n\n\n\n\n", " ", "#"):
            self.assert_refused(0, BOOK, text)
            self.assert_refused(0, [["days", 3], ["bench", "saw", 2]], text)
        for text in ("\n", " ", "#", "\n\n", "saw          000000\n"):
            self.assert_refused(0, [["days", 3]], text)

    def test_other_line_ends_and_figures(self):
        for end in ("\r\n", "\r", "\v", "\f", "\u2028", "\x85", " \n"):
            self.assert_refused(0, BOOK, PICTURE.replace("\n", end))
            self.assert_refused(4, BOOK, PICTURE[:-1] + end)
        for figures in ("\u0660\u0669", "\u00b2\u00b3", "\uff10\uff19", "-9", "+9", " 9", "9.", "a9"):
            self.assert_refused(3, BOOK, PICTURE.replace("07", figures))
            self.assert_refused(4, BOOK, PICTURE.replace("0909090909", "09090909" + figures))


class Rows(PictureCase):
    """Rows are missing, are too many, or stand elsewhere."""

    def test_a_row_missing(self):
        for number in range(5):
            self.assert_refused(number, BOOK, text_of(ROWS[:number] + ROWS[number + 1:]))

    def test_the_last_rows_missing(self):
        for number in range(5):
            self.assert_refused(number, BOOK, text_of(ROWS[:number]))
            # One behind which no line end stands.
            self.assert_refused(number, BOOK, text_of(ROWS[:number]) + ROWS[number])

    def test_a_row_twice(self):
        for number in range(5):
            self.assert_refused(number + 1, BOOK, text_of(ROWS[:number + 1] + ROWS[number:]))

    def test_two_rows_exchanged(self):
        for one, other in itertools.combinations(range(5), 2):
            rows = list(ROWS)
            rows[one], rows[other] = ROWS[other], ROWS[one]
            self.assert_refused(one, BOOK, text_of(rows))

    def test_too_many(self):
        for more in ("\n", " ", "x", "\n\n", "x\n", ROWS[4], ROWS[4] + "\n", ROWS[0] + "\n", "\r", "saw          0000000000"):
            self.assert_refused(5, BOOK, PICTURE + more)
        self.assert_refused(5, BOOK, PICTURE + PICTURE)
        self.assert_refused(1, [["days", 1], ["bench", "a", 1]], "a            00\n\n")
        self.assert_refused(1, [["days", 1], ["bench", "a", 1]], "a            00\n ")

    def test_a_row_of_another_book(self):
        for number, row in ((0, "stool        .#... q"), (0, "chairs       .#... q"), (0, "chai         .#... q"),
                            (2, "y            ..##. q"), (3, "sax          0007050500"), (4, "longestbenc  0909090909"),
                            (0, "Chair        .#... q"), (3, "chair        0007050500"), (3, "saw          .#... q")):
            rows = list(ROWS)
            rows[number] = row
            self.assert_refused(number, BOOK, text_of(rows))


class WorksRows(PictureCase):
    def assert_row_refused(self, number, row):
        rows = list(ROWS)
        rows[number] = row
        self.assert_refused(number, BOOK, text_of(rows))

    def test_ways(self):
        # Another work's, none, one of other length, and one that is written otherwise.
        for way in ("longestnames", "quick", "", "slow", "Q", "qq", "q ", " q"):
            self.assert_row_refused(0, "chair        .#... " + way)
        for way in ("slow", "r", "saw", "0"):
            self.assert_row_refused(2, "x            ..##. " + way)

    def test_a_work_without_ways(self):
        book = [["days", 2], ["work", "a"], ["way", "a", "q", 1, 1], ["work", "b"]]
        for row in ("b            #. q", "b            .. q", "b            .. ", "b            .."):
            self.assert_refused(1, book, f"a            #. q\n{row}\n")
        self.assert_refused(0, book, "a            ## q\nb            .. \n")
        self.assert_refused(1, book, "a            #. q\n")

    def test_days(self):
        # None at all, too many, too few, with a gap, and of other counts of days.
        for signs in (".....", "##...", "#.#..", "#####", "#...#", ".#..", ".#....", "#", "", ".#. .", ".0...", ".*...", "..X.."):
            self.assert_row_refused(0, f"chair        {signs} q")
        for signs in (".....", "#....", ".###.", "#.#..", "##.##", "#..#.", "####.", "....##", "...##."):
            self.assert_row_refused(2, f"x            {signs} q")
        for signs in ("####.", ".####", "##.##", "######", "....."):
            self.assert_row_refused(1, f"longestnamed {signs} longestnames")

    def test_blanks(self):
        for row in ("chair .#... q", "chair       .#... q", "chair         .#... q", "chair        .#...  q", "chair        .#...q",
                    " chair       .#... q", "chair\t       .#... q", "chair        .#...\tq", "chair        .#... q "):
            self.assert_row_refused(0, row)

    def test_other_days_and_ways_that_are_there(self):
        # As told, but a plan that is broken, and other numbers than it uses: the bench's row.
        for row in ("chair        ..#.. q", "chair        #.... q", "chair        ###.. slow", "chair        ..### slow"):
            rows = [row] + ROWS[1:]
            self.assert_refused(3, BOOK, text_of(rows))


class BenchesRows(PictureCase):
    def test_other_numbers(self):
        # Of two figures, but not what is used.
        for number, row in ((3, "saw          0000000000"), (3, "saw          0007050501"), (3, "saw          9907050500"),
                            (3, "saw          0700050500"), (4, "longestbench 0909090908"), (4, "longestbench 9999999999")):
            rows = list(ROWS)
            rows[number] = row
            self.assert_refused(number, BOOK, text_of(rows))
        self.assert_refused(3, BOOK, text_of(ROWS[:3] + ["saw          0000000000", "longestbench 0000000000"]))

    def test_no_numbers_of_two_figures(self):
        for row in ("saw          07050500", "saw          000007050500", "saw          007055", "saw          00 07 05 05 00",
                    "saw          000705050", "saw          00070505000", "saw          0007050 00", "saw          000705.500",
                    "saw         0007050500", "saw           0007050500", "saw 0007050500", "saw          0007050500 "):
            rows = list(ROWS)
            rows[3] = row
            self.assert_refused(3, BOOK, text_of(rows))

    def test_more_than_two_figures_can_tell(self):
        book = [["days", 1], ["bench", "b", 2], ["bench", "a", 99]]
        for work in "uv":
            book += [["work", work], ["way", work, "q", 1, 0], ["uses", work, "q", "a", 50]]
        works = "u            # q\nv            # q\n"
        for figures in ("99", "00", "10"):
            self.assert_refused(3, book, works + f"b            00\na            {figures}\n")
        self.assert_refused(3, book, works + "b            00\na            100\n")
        self.assert_refused(2, book, works + "b            01\na            99\n")


class First(PictureCase):
    """What comes first where several things are wrong."""

    # Two works for one place on the bench; a store, and one behind the other.
    TIGHT = [["days", 2], ["bench", "saw", 1], ["store", "oil", 1, 1], ["work", "a"], ["way", "a", "q", 1, 0],
             ["uses", "a", "q", "saw", 1], ["work", "b"], ["way", "b", "q", 1, 0], ["uses", "b", "q", "saw", 1],
             ["bench", "plane", 0]]

    GOOD = "a            #. q\nb            .# q\nsaw          0101\nplane        0000\n"
    BROKEN = "a            #. q\nb            #. q\nsaw          0200\nplane        0000\n"

    def test_a_broken_plan(self):
        self.assert_picture(self.TIGHT, {"a": ("q", 0), "b": ("q", 1)}, self.GOOD)
        self.assertEqual(broken(self.TIGHT, {"a": ("q", 0), "b": ("q", 0)}), ("room", "saw", 0))
        self.assert_refused(4, self.TIGHT, self.BROKEN)

    def test_each_kind_of_broken_plan(self):
        for row, thing in ((["shut", "saw", 1, 2], ("room", "saw", 1)), (["takes", "b", "q", "oil", 2], ("store", "oil", 1)),
                           (["gives", "a", "q", "oil", 1], ("store", "oil", 1)), (["after", "b", "a", 0], ("after", "b", "a")),
                           (["after", "a", "b", 1], ("after", "a", "b"))):
            book = self.TIGHT + [row]
            self.assertEqual(broken(book, {"a": ("q", 0), "b": ("q", 1)}), thing)
            self.assert_refused(4, book, self.GOOD)
        # A broken plan of a book without benches.
        book = [["days", 1], ["store", "oil", 1, 0], ["work", "a"], ["way", "a", "q", 1, 0], ["takes", "a", "q", "oil", 1]]
        self.assert_refused(1, book, "a            # q\n")

    def test_other_numbers_ahead_of_a_broken_plan(self):
        self.assert_refused(2, self.TIGHT, self.BROKEN.replace("0200", "0101"))
        self.assert_refused(3, self.TIGHT, self.BROKEN.replace("0000", "0001"))
        self.assert_refused(2, self.TIGHT, self.BROKEN.replace("0000", "0001").replace("0200", "0100"))

    def test_wrong_rows_ahead_of_a_broken_plan_and_of_other_numbers(self):
        for text, number in ((self.BROKEN, 4), (self.BROKEN.replace("0200", "0101"), 2), (self.GOOD.replace("0101", "0000"), 2)):
            self.assert_refused(number, self.TIGHT, text)
            self.assert_refused(4, self.TIGHT, text + "\n")
            self.assert_refused(4, self.TIGHT, text + "more")
            self.assert_refused(3, self.TIGHT, text[:-1])
            self.assert_refused(3, self.TIGHT, text[:text.index("plane")])
            self.assert_refused(3, self.TIGHT, text.replace("plane ", "plan  "))
            self.assert_refused(3, self.TIGHT, text.replace("plane        0000", "plane        000"))
            self.assert_refused(1, self.TIGHT, text.replace("\nb ", "\nc "))
            self.assert_refused(0, self.TIGHT, text.replace("a            #.", "a            .."))

    def test_the_first_of_several_wrong_rows(self):
        wrong = ["chair        ..... q", "longestnamed ####. longestnames", "x            ..##. r", "saw          000705050x",
                 "longestbench 09"]
        for count in range(1, 6):
            for numbers in itertools.combinations(range(5), count):
                rows = [wrong[number] if number in numbers else ROWS[number] for number in range(5)]
                self.assert_refused(numbers[0], BOOK, text_of(rows))
                self.assert_refused(numbers[0], BOOK, text_of(rows) + "\n")
                self.assert_refused(numbers[0], BOOK, text_of(rows)[:-1])


class Chance(PictureCase):
    def test_pictures_with_a_slip(self):
        """Beside a slow look at the text, row by row."""
        chance = random.Random(42)
        seen = 0
        told = {}
        for _ in range(250):
            book = some_book(chance)
            plans = plans_of(book)
            pictures = {picture_of(book, plan): plan for plan in plans}
            for _ in range(12):
                text = self.slipped(chance, chance.choice(list(pictures)))
                if text in pictures and broken(book, pictures[text]) is None:
                    self.assertEqual(plan_seen(book, text), pictures[text])
                    seen += 1
                else:
                    row = self.row_wrong(book, plans, text)
                    self.assert_refused(row, book, text)
                    told[row] = told.get(row, 0) + 1
        self.assertGreater(seen, 50)
        self.assertGreater(len(told), 4)

    def slipped(self, chance, text):
        for _ in range(chance.choice((0, 1, 1, 1, 2))):
            place = chance.randrange(len(text) + 1)
            other = chance.randrange(len(text) + 1)
            sign = chance.choice(" .#0189qr\n")
            rows = text.split("\n")
            text = chance.choice((
                text[:place] + sign + text[place:], text[:place] + sign + text[place + 1:], text[:place] + text[place + 1:],
                text[:place], text[:min(place, other)] + text[max(place, other):], "\n".join(sorted(rows[:-1]) + [""]),
                text.replace(".#", "#.", 1), text.replace("#.", ".#", 1), text.replace("# r", "# qq", 1)))
        return text

    def row_wrong(self, book, plans, text):
        """As the point says it, of all plans' rows."""
        works = [row[1] for row in book if row[0] == "work"]
        benches = [row[1] for row in book if row[0] == "bench"]
        rows = text.split("\n")
        pictures = [picture_of(book, plan).split("\n") for plan in plans]
        for number in range(len(works) + len(benches)):
            if number >= len(rows) - 1:
                return number
            if number < len(works) and rows[number] not in [picture[number] for picture in pictures]:
                return number
            if number >= len(works):
                name, figures = rows[number][:13], rows[number][13:]
                if name.rstrip(" ") != benches[number - len(works)] or len(name) != 13:
                    return number
                if len(figures) != 2 * book[0][1] or any(sign not in "0123456789" for sign in figures):
                    return number
        count = len(works) + len(benches)
        if rows[count:] != [""]:
            return count
        picture = [picture for picture in pictures if picture[:len(works)] == rows[:len(works)]][0]
        return min([number for number in range(count) if rows[number] != picture[number]], default=count)


class Told(PictureCase):
    def test_the_refusal(self):
        for text in ("", PICTURE + "\n", PICTURE.replace("07", "08"), "x" * 60000, "\n" * 60000):
            for above in (NoPicture, PlanError, ValueError):
                self.assertRaises(above, plan_seen, BOOK, text)
            with self.assertRaises(PlanError) as caught:
                plan_seen(BOOK, text)
            self.assertNotIsInstance(caught.exception, (NoNumber, NoStep, NoBook))
            self.assertIs(type(caught.exception.row), int)

    def test_by_name(self):
        self.assertEqual(drawn(book=BOOK, plan=PLAN), PICTURE)
        self.assertEqual(plan_seen(book=BOOK, text=PICTURE), PLAN)

    def test_the_plan_is_a_new_one(self):
        one, other = plan_seen(BOOK, PICTURE), plan_seen(BOOK, PICTURE)
        self.assertIsNot(one, other)
        one.clear()
        self.assertEqual(other, PLAN)
        self.assertEqual(plan_seen(BOOK, PICTURE), PLAN)

    def test_what_is_handed_in_changed_behind(self):
        book, plan = copy.deepcopy(BOOK), dict(PLAN)
        text = drawn(book, plan)
        told = plan_seen(book, text)
        plan.clear()
        for row in book:
            row.clear()
        self.assertEqual((text, told), (PICTURE, PLAN))


if __name__ == "__main__":
    unittest.main()
