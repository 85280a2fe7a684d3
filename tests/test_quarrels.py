"""Quarrels of problems and of books."""

import copy
import itertools
import random
import unittest

from nonebetter.allpoints import all_points
from nonebetter.answers import answer_to
from nonebetter.booked import choices, labelled, problem_of
from nonebetter.books import looked
from nonebetter.judge import judged
from nonebetter.plans import broken
from nonebetter.quarrels import quarrel, quarrel_of
from nonebetter.rows import kept

# Of each two of three choices one at least, but no more than one of all.
RING = ([((1, 1, 0), 1), ((0, 1, 1), 1), ((1, 0, 1), 1), ((-1, -1, -1), -1)], (4, -2, 7))

# Three works that need the whole bench for a day each, and but two days.
CROWDED = [["days", 2], ["bench", "saw", 1], ["bench", "plane", 3]] + [
    row for work in "abc" for row in (["work", work], ["way", work, "q", 1, 5], ["uses", work, "q", "saw", 1])]


def boxes(things, count):
    """A problem of things that are to be put in boxes, one in each at the most."""
    size = things * count
    rows = [(tuple(1 if place // count == thing else 0 for place in range(size)), 1) for thing in range(things)]
    rows += [(tuple(-1 if place % count == box else 0 for place in range(size)), -1) for box in range(count)]
    return (rows, (1,) * size)


def some_problem(chance, size, count, greatest):
    rows = []
    for _ in range(count):
        numbers = tuple(chance.choice((0, chance.randint(-greatest, greatest))) for _ in range(size))
        rows.append((numbers, chance.randint(-greatest, greatest)))
    return (rows, tuple(chance.randint(-9, 9) for _ in range(size)))


def some_shut_outs(chance, size, count, most):
    """A problem of rows each of which shuts out some holds of so many choices."""
    rows = []
    for _ in range(count):
        numbers = [0] * size
        for place in chance.sample(range(size), most):
            numbers[place] = chance.choice((-1, 1))
        rows.append((tuple(numbers), 1 - numbers.count(-1)))
    return (rows, tuple(chance.randint(-9, 9) for _ in range(size)))


def some_book(chance):
    """A small book that often has no plan."""
    days = chance.randint(1, 4)
    works, benches, stores = "abc"[:chance.randint(1, 3)], "xy"[:chance.randint(0, 2)], "s"[:chance.randint(0, 1)]
    book = [["days", days]] + [["bench", bench, chance.randint(0, 3)] for bench in benches]
    for store in stores:
        most = chance.randint(0, 4)
        book.append(["store", store, most, chance.randint(0, most)])
    book += [["shut", bench, 0, 1] for bench in benches if chance.randrange(3) == 0]
    for work in works:
        book.append(["work", work])
        for way in "qr"[:chance.choice((0, 1, 1, 1, 1, 2, 2, 2))]:
            book.append(["way", work, way, chance.randint(1, days), chance.randint(0, 9)])
            book += [["uses", work, way, bench, chance.randint(1, 3)] for bench in benches if chance.randrange(2)]
            for word, store in itertools.product(("takes", "gives"), stores):
                if chance.randrange(2):
                    book.append([word, work, way, store, chance.randint(1, 3)])
    for pair in itertools.permutations(works, 2):
        if chance.randrange(4) == 0:
            book.append(["after", *pair, chance.randint(0, 1)])
    return book


def great_book(chance):
    """A book of about sixty choices, whose works are too many for its benches and stores, or nearly so."""
    days, ways = chance.choice(((12, "q"), (4, "qrs"), (6, "qr")))
    book = [["days", days]] + [["bench", bench, chance.randint(2, 6)] for bench in "xyz"]
    for store in "st":
        most = chance.randint(4, 12)
        book.append(["store", store, most, chance.randint(0, most)])
    for work in "abcde":
        book.append(["work", work])
        for way in ways:
            book.append(["way", work, way, chance.randint(1, max(1, days // 3)), chance.randint(0, 50)])
            book += [["uses", work, way, bench, chance.randint(1, 4)] for bench in "xyz" if chance.randrange(3)]
            for word, store in itertools.product(("takes", "gives"), "st"):
                if chance.randrange(2):
                    book.append([word, work, way, store, chance.randint(1, 6)])
        book.append(["late", work, chance.randint(0, days), chance.randint(1, 30)])
    for pair in itertools.combinations("abcde", 2):
        if chance.randrange(6) == 0:
            book.append(["after", *pair, chance.randint(0, 1)])
    return book


def alike_book(chance):
    """A book of works that are alike in all but their costs."""
    days, ways = chance.choice(((3, "q"), (4, "q"), (2, "qr"), (3, "qr"), (3, "qrs")))
    book = [["days", days]] + [["bench", bench, chance.randint(1, 4)] for bench in "x"[:chance.randint(0, 1)]]
    for store in "st"[:chance.randint(0, 2)]:
        most = chance.randint(2, 8)
        book.append(["store", store, most, chance.randint(0, most)])
    alike = [["way", way, chance.randint(1, 2)] for way in ways]
    for word, row, way in itertools.product(("uses", "takes", "gives"), book[1:], ways):
        if (word == "uses") == (row[0] == "bench") and chance.randrange(2):
            alike.append([word, way, row[1], chance.randint(1, 5 if row[0] == "store" else 3)])
    for work in "abcd"[:chance.randint(3, 4)]:
        book.append(["work", work])
        book += [row[:1] + [work] + row[1:] + [chance.randint(0, 2)] * (row[0] == "way") for row in alike]
    return book


def has_plan(book):
    works = [row[1] for row in book if row[0] == "work"]
    ways = [[(row[2], begin) for row in book if row[:2] == ["way", work] for begin in range(book[0][1] - row[3] + 1)]
            for work in works]
    return any(broken(book, dict(zip(works, taken))) is None for taken in itertools.product(*ways))


class QuarrelCase(unittest.TestCase):
    def assert_quarrel(self, problem, told, numbers):
        """All that is told of a quarrel, whose rows have these numbers."""
        self.assertEqual([type(told), len(told)], [tuple, 3])
        self.assertEqual([type(part) for part in told], [list, list, list])
        self.assertGreater(len(numbers), 0)
        self.assertEqual(numbers, sorted(set(numbers)))
        rows = [problem[0][number] for number in numbers]
        # The judge says that no point keeps them.
        self.assertIsNone(judged((rows, problem[1]), None, told[1]))
        self.assertEqual(len(told[2]), len(numbers))
        for number, point in zip(numbers, told[2]):
            self.assertIs(type(point), tuple)
            self.assertEqual(len(point), len(problem[1]))
            self.assertTrue(all(worth in (0, 1) and type(worth) is int for worth in point))
            self.assertTrue(all(kept(problem[0][other], point) for other in numbers if other != number))
            # Else it would keep them all.
            self.assertFalse(kept(problem[0][number], point))

    def quarrel_in(self, problem):
        """The numbers of the quarrel of a problem that has one."""
        ahead = copy.deepcopy(problem)
        told = quarrel(problem)
        self.assertEqual(problem, ahead)
        self.assertIsNotNone(told)
        self.assertTrue(all(type(number) is int for number in told[0]))
        self.assert_quarrel(problem, told, told[0])
        return told[0]

    def assert_none(self, problem):
        ahead = copy.deepcopy(problem)
        self.assertIsNone(quarrel(problem))
        self.assertEqual(problem, ahead)


class SomePoint(QuarrelCase):
    """Problems that some point keeps."""

    def test_none(self):
        for problem in (
            ([], ()), ([], (3, 4)), ([((), 0)], ()), ([((), -1), ((), 0)], ()), ([((1,), 1)], (5,)), ([((-1,), 0)], (-5,)),
            (RING[0][:3], RING[1]), (RING[0][1:], RING[1]), boxes(3, 3), boxes(7, 8), ([((0, 0), 0)], (1, 1)),
            ([((10 ** 17, -10 ** 17), 10 ** 17)], (10 ** 17, -10 ** 17)),
        ):
            self.assert_none(problem)

    def test_only_one_point(self):
        for point in itertools.product((0, 1), repeat=4):
            rows = [(tuple(2 * worth - 1 for worth in point), sum(point))]
            self.assert_none((rows, (1, 2, 3, 4)))
            rows.append((tuple(1 - 2 * worth for worth in point), 1 - sum(point)))
            self.assertEqual(self.quarrel_in((rows, (1, 2, 3, 4))), [0, 1])


class OneRow(QuarrelCase):
    def test_rows_that_no_point_keeps(self):
        for row in (((), 1), ((0,), 1), ((1,), 2), ((-1,), 1), ((1, 1, -5), 3), ((0, 0), 10 ** 17), ((10 ** 17,), 10 ** 17 + 1)):
            costs = (1,) * len(row[0])
            self.assertEqual(self.quarrel_in(([row], costs)), [0])
            free = (tuple(0 for _ in row[0]), 0)
            self.assertEqual(self.quarrel_in(([free, free, row, free], costs)), [2])

    def test_without_choices(self):
        self.assertEqual(quarrel(([((), 1)], ()))[2], [()])
        self.assertEqual(self.quarrel_in(([((), 0), ((), 2), ((), -1)], ())), [1])
        self.assertEqual(len(self.quarrel_in(([((), 3), ((), 2), ((), 1)], ()))), 1)

    def test_one_of_several_such_rows(self):
        rows = [((1, 1), 3), ((1, 0), 1), ((-1, 0), 0), ((0, 1), 2)]
        self.assertIn(self.quarrel_in((rows, (1, 1))), ([0], [1, 2], [3]))


class SeveralRows(QuarrelCase):
    def test_two(self):
        rows = [((1, 1), 1), ((0, 1), 0), ((-1, -1), 0), ((1, -1), -1)]
        self.assertEqual(self.quarrel_in((rows, (3, 3))), [0, 2])
        self.assertEqual(self.quarrel_in((rows[::-1], (3, 3))), [1, 3])

    def test_four(self):
        self.assertEqual(self.quarrel_in(RING), [0, 1, 2, 3])
        rows = [((0, 0, 0), 0), ((1, 1, 1), 0)] + RING[0][::-1] + [((-1, 0, 0), -1)]
        self.assertEqual(self.quarrel_in((rows, RING[1])), [2, 3, 4, 5])

    def test_boxes(self):
        for things, count in ((2, 1), (3, 2), (4, 3), (5, 4), (8, 7)):
            problem = boxes(things, count)
            self.assertEqual(self.quarrel_in(problem), list(range(things + count)))
        # Of more things than are needed some are left out.
        self.assertEqual(len(self.quarrel_in(boxes(6, 3))), 7)
        self.assertEqual(len(self.quarrel_in(boxes(9, 1))), 3)

    def test_rows_alike(self):
        rows = [row for row in RING[0] for _ in range(3)]
        numbers = self.quarrel_in((rows, RING[1]))
        self.assertEqual([number // 3 for number in numbers], [0, 1, 2, 3])
        self.assertEqual(len(self.quarrel_in(([((1,), 1), ((-1,), 0)] * 5, (0,)))), 2)
        self.assertEqual(len(self.quarrel_in(([((1,), 2)] * 5, (0,)))), 1)
        alike = boxes(4, 3)
        numbers = self.quarrel_in((alike[0] * 2, alike[1]))
        self.assertEqual(sorted(number % 7 for number in numbers), list(range(7)))

    def test_two_quarrels(self):
        # Either may be told, but not both in one.
        rows = [((1, 0), 1), ((0, 1), 1), ((-1, 0), 0), ((0, -1), 0)]
        self.assertIn(self.quarrel_in((rows, (2, 2))), ([0, 2], [1, 3]))
        # A row of each of two quarrels: with the first, or with the second two.
        rows = [((1, 1), 1), ((-1, -1), 0), ((-1, 0), 0), ((0, -1), 0)]
        self.assertIn(self.quarrel_in((rows, (2, 2))), ([0, 1], [0, 2, 3]))

    def test_rows_that_only_points_break(self):
        # Spreads keep them.
        self.assertEqual(self.quarrel_in(([((2, 2, 2), 3), ((-2, -2, -2), -3)], (1, 1, 1))), [0, 1])
        rows = [((2,) * 9, 9), ((-2,) * 9, -9), ((1,) * 9, 0)]
        self.assertEqual(self.quarrel_in((rows, (1, 2, 3, 4, 5, 6, 7, 8, 9))), [0, 1])

    def test_alike_choices_of_unlike_costs(self):
        # What is alike where nothing costs anything is not so here: the paper must not turn it.
        size = 12
        rows = [((3,) * size, 16), ((-3,) * size, -17)]
        for row in itertools.islice(itertools.combinations(range(size), 2), 30):
            rows.append((tuple(-1 if place in row else 0 for place in range(size)), -2))
        for costs in ((1,) * size, tuple(range(size)), tuple(place % 2 for place in range(size))):
            self.assertEqual(self.quarrel_in((rows, costs)), [0, 1])
        for things in (3, 4, 5):
            rows = boxes(things, things - 1)[0]
            pairs = []
            for row in rows[things:]:
                ones = [place for place, number in enumerate(row[0]) if number]
                for pair in itertools.combinations(ones, 2):
                    pairs.append((tuple(-1 if place in pair else 0 for place in range(len(row[0]))), -1))
            problem = (rows[:things] + pairs, tuple(range(things * (things - 1))))
            self.assertEqual(self.quarrel_in(problem), list(range(len(problem[0]))))

    def test_rows_that_a_turn_leads_to(self):
        # Halves that are alike: a paper that says so leans on both, though it gives a row of but one.
        rows = [((-3, 1, -1, 0, 3, 1), 2), ((-2, -2, 2, -2, -2, 2), 2), ((0, 3, 1, -3, 1, -1), 2)]
        self.assertEqual(self.quarrel_in((rows, (0,) * 6)), [0, 1, 2])
        rows = [((-2, -3, 2, -2, 1, 1), 0), ((3, 2, -1, 3, -3, 1), 2), ((-2, 1, 1, -2, -3, 2), 0), ((3, -3, 1, 3, 2, -1), 2),
                ((-1, 3, 3, 2, 2, -2), 1), ((2, 2, -2, -1, 3, 3), 1)]
        for order in itertools.islice(itertools.permutations(rows), 0, 720, 30):
            self.quarrel_in((list(order), (0,) * 6))
        rows = [((2, 2, 2, -3, 3, 2, 0, 1), 3), ((3, 2, 0, 1, 2, 2, 2, -3), 3), ((0, -2, 0, 3, -3, 1, 0, 2), 2),
                ((0, 1, -1, 0, 0, 1, -1, 0), 1), ((-3, 1, 0, 2, 0, -2, 0, 3), 2), ((3, 1, -3, 2, 3, 1, -3, 2), 4)]
        for order in itertools.islice(itertools.permutations(rows), 0, 720, 30):
            self.quarrel_in((list(order), (0,) * 8))

    def test_small_problems(self):
        chance = random.Random(51)
        counts = {True: 0, False: 0}
        lengths = {}
        for _ in range(800):
            problem = some_problem(chance, chance.randint(0, 7), chance.randint(0, 12), chance.choice((1, 3, 9)))
            if chance.randrange(4) == 0:
                problem = some_shut_outs(chance, chance.randint(3, 6), chance.randint(5, 40), chance.randint(2, 3))
            some = len(all_points(problem)) > 0
            counts[some] += 1
            if some:
                self.assert_none(problem)
            else:
                numbers = self.quarrel_in(problem)
                self.assertEqual(all_points(([problem[0][number] for number in numbers], problem[1])), [])
                lengths[len(numbers)] = lengths.get(len(numbers), 0) + 1
        self.assertGreater(min(counts.values()), 200)
        self.assertGreater(len(lengths), 8, lengths)

    def test_great_problems(self):
        chance = random.Random(52)
        found = 0
        for size, count in ((20, 120), (30, 180), (40, 250), (60, 100), (25, 400)):
            problem = some_shut_outs(chance, size, count, 3)
            told = quarrel(problem)
            if told is not None:
                found += 1
                self.assert_quarrel(problem, told, told[0])
        self.assertGreater(found, 3)
        numbers = tuple(chance.randint(10 ** 16, 10 ** 17) for _ in range(60))
        rows = [(numbers, 1), (tuple(-number for number in numbers), 1 - min(numbers)), ((1,) * 60, 0)]
        self.assertEqual(self.quarrel_in((rows, numbers)), [0, 1])


class Books(QuarrelCase):
    def labels_in(self, book):
        """The labels of the quarrel of a book that has one."""
        looked(book)
        ahead = copy.deepcopy(book)
        told = quarrel_of(book)
        self.assertEqual(book, ahead)
        self.assertIsNotNone(told)
        labels = [label for label, row in labelled(book)]
        self.assertTrue(all(type(label) is tuple for label in told[0]))
        self.assert_quarrel(problem_of(book), told, [labels.index(label) for label in told[0]])
        return told[0]

    def test_crowded(self):
        self.assertEqual(self.labels_in(CROWDED), [
            ("work", "a", 1), ("work", "b", 1), ("work", "c", 1), ("room", "saw", 0), ("room", "saw", 1)])

    def test_with_a_plan(self):
        for book in ([["days", 1]], CROWDED[:-3], [["days", 3]] + CROWDED[1:], [["days", 4], ["bench", "saw", 0]]):
            ahead = copy.deepcopy(book)
            self.assertIsNone(quarrel_of(book))
            self.assertEqual(book, ahead)

    def test_a_work_without_ways(self):
        book = [["days", 2], ["work", "a"], ["way", "a", "q", 1, 1], ["work", "b"]]
        self.assertEqual(self.labels_in(book), [("work", "b", 1)])
        self.assertEqual(quarrel_of([["days", 2], ["work", "b"]])[2], [()])

    def test_each_kind_of_row(self):
        book = [["days", 2], ["bench", "saw", 1], ["store", "oil", 3, 1], ["work", "a"], ["way", "a", "q", 1, 4]]
        for row, label in ((["uses", "a", "q", "saw", 2], "room"), (["takes", "a", "q", "oil", 2], "least"),
                           (["gives", "a", "q", "oil", 3], "most")):
            labels = self.labels_in(book + [row])
            self.assertEqual(labels[0], ("work", "a", 1))
            self.assertEqual({name[0] for name in labels[1:]}, {label})
        both = book + [["work", "b"], ["way", "b", "q", 1, 4], ["after", "b", "a", 0], ["after", "a", "b", 0]]
        labels = self.labels_in(both)
        self.assertEqual({name[0] for name in labels}, {"work", "after"})
        self.assertEqual({name[1:3] for name in labels if name[0] == "after"}, {("a", "b"), ("b", "a")})

    def test_labels_in_the_order_of_the_rows(self):
        # Names that sort otherwise than they stand.
        book = [["days", 1], ["bench", "y", 1], ["bench", "x", 2], ["work", "d"], ["work", "c"], ["way", "d", "q", 1, 0],
                ["way", "c", "r", 1, 0], ["way", "c", "q", 1, 0], ["uses", "d", "q", "y", 1], ["uses", "d", "q", "x", 2],
                ["uses", "c", "r", "y", 1], ["uses", "c", "q", "x", 1]]
        self.assertEqual(self.labels_in(book), [("work", "d", 1), ("work", "c", 1), ("room", "y", 0), ("room", "x", 0)])

    def test_small_books(self):
        chance = random.Random(53)
        counts = {True: 0, False: 0}
        for _ in range(200):
            book = some_book(chance)
            some = has_plan(book)
            counts[some] += 1
            if some:
                self.assertIsNone(quarrel_of(book))
            else:
                self.labels_in(book)
                told = quarrel(problem_of(book))
                labels = [label for label, row in labelled(book)]
                self.assertEqual(quarrel_of(book), ([labels[number] for number in told[0]],) + told[1:])
        self.assertGreater(min(counts.values()), 50, counts)

    def test_small_books_of_works_alike(self):
        chance = random.Random(55)
        done = 0
        while done < 150:
            book = alike_book(chance)
            if answer_to(book)[0] == "none":
                self.labels_in(book)
                done += 1

    def test_great_books(self):
        chance = random.Random(54)
        done = 0
        while done < 8:
            book = great_book(chance)
            if len(choices(book)) <= 60:
                told = answer_to(book)
                if told[0] == "plan":
                    self.assertIsNone(quarrel_of(book))
                else:
                    self.labels_in(book)
                    done += 1

    def test_alike_works(self):
        for days, room, uses in ((2, 3, 2), (4, 3, 2), (4, 5, 3), (3, 2, 2)):
            book = [["days", days], ["bench", "saw", room]]
            for place, work in enumerate("abcde"):
                book += [["work", work], ["way", work, "q", 1, place], ["way", work, "r", 1, 3], ["late", work, 1, place + 1]]
                book += [["uses", work, way, "saw", uses] for way in "qr"]
            labels = self.labels_in(book)
            self.assertEqual(len([label for label in labels if label[0] == "work"]), days * (room // uses) + 1)


class Told(QuarrelCase):
    def inner(self, thing):
        """All lists within a thing."""
        inner = [part for more in thing for part in self.inner(more)] if isinstance(thing, (tuple, list)) else []
        return inner + ([thing] if isinstance(thing, list) else [])

    def handed(self):
        """Asked functions with what is handed in, all of it new."""
        handed = [(quarrel, copy.deepcopy(problem)) for problem in (RING, boxes(4, 3), ([((), 1)], ()), boxes(2, 2))]
        return handed + [(quarrel_of, copy.deepcopy(CROWDED)), (quarrel_of, [["days", 1]])]

    def test_by_name(self):
        self.assertEqual(quarrel(problem=RING), quarrel(RING))
        self.assertEqual(quarrel_of(book=CROWDED), quarrel_of(CROWDED))

    def test_each_list_is_a_new_one(self):
        for ask, handed in self.handed():
            parts = self.inner(handed) + self.inner(ask(handed)) + self.inner(ask(handed))
            self.assertEqual(len({id(part) for part in parts}), len(parts))

    def test_changing_what_was_told_changes_nothing(self):
        for number, (ask, handed) in enumerate(self.handed()):
            told = ask(handed)
            asked = copy.deepcopy(told)
            for part in self.inner(told):
                part.clear()
            self.assertEqual(handed, self.handed()[number][1])
            self.assertEqual(ask(handed), asked)

    def test_changing_what_was_handed_in_behind(self):
        for ask, handed in self.handed():
            told = ask(handed)
            asked = copy.deepcopy(told)
            for part in self.inner(handed):
                part.clear()
            self.assertEqual(told, asked)


if __name__ == "__main__":
    unittest.main()
