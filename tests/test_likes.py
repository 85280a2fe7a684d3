"""Likenesses: exchanges of two choices, and turns from one choice to another."""

import copy
import itertools
import random
import unittest

from nonebetter.likes import exchanges, turn_from
from nonebetter.rows import turn_keeps

GREAT = 10 ** 18 - 1


def exchange_of(count, one, other):
    turn = list(range(count))
    turn[one], turn[other] = other, one
    return turn


def exchanges_slowly(problem):
    count = len(problem[1])
    return [
        pair for pair in itertools.combinations(range(count), 2) if turn_keeps(problem, exchange_of(count, *pair))
    ]


def rows_of(count, pairs, least=1):
    """A row for each list of choices, with 1 at these."""
    return [(tuple(1 if choice in pair else 0 for choice in range(count)), least) for pair in pairs]


def ring(count):
    return rows_of(count, [(first, (first + 1) % count) for first in range(count)])


def even(count, things):
    """Choices in pairs: of three of these so many are taken of one side that they are an even number."""
    sides = itertools.product((0, 1), repeat=3)
    return rows_of(count, [[2 * thing + side for thing, side in zip(things, some)] for some in sides if sum(some) % 2 == 0])


def some_problem(chance, most):
    """A problem with, mostly, some turns that keep it: its rows are turned round."""
    count = chance.randint(1, most)
    turn = list(range(count))
    chance.shuffle(turn)
    rows = []
    for _ in range(chance.randint(0, 3)):
        numbers = tuple(chance.randint(-1, 1) for _ in range(count))
        least = chance.randint(-1, 1)
        for _ in range(chance.choice((1, count, 12))):
            rows.append((numbers, least))
            numbers = tuple(numbers[place] for place in turn)
    chance.shuffle(rows)
    if rows and chance.randint(0, 3) == 0:
        rows.append(chance.choice(rows))
    return (rows, tuple(chance.choice((0, 0, 0, 0, 5)) for _ in range(count)))


class Exchanges(unittest.TestCase):
    def assert_exchanges(self, problem, asked):
        ahead = copy.deepcopy(problem)
        told = exchanges(problem)
        self.assertEqual(problem, ahead)
        self.assertEqual(told, asked)
        self.assertIs(type(told), list)
        for pair in told:
            self.assertEqual([type(pair), len(pair), type(pair[0]), type(pair[1])], [tuple, 2, int, int])

    def test_no_choices_and_one(self):
        for rows in ([], [((), 3)], [((), 3), ((), 3)]):
            self.assert_exchanges((rows, ()), [])
        self.assert_exchanges(([], (4,)), [])
        self.assert_exchanges(([((7,), 3)], (4,)), [])

    def test_no_rows(self):
        self.assert_exchanges(([], (1, 2, 1, 1, 2)), [(0, 2), (0, 3), (1, 4), (2, 3)])
        self.assert_exchanges(([], (1, 2, 3)), [])

    def test_all_choices_alike(self):
        every = list(itertools.combinations(range(5), 2))
        self.assert_exchanges(([], (3,) * 5), every)
        self.assert_exchanges(([((2,) * 5, 4), ((-1,) * 5, -3)], (3,) * 5), every)
        self.assert_exchanges((rows_of(5, every), (0,) * 5), every)
        self.assert_exchanges((rows_of(5, [(choice,) for choice in range(5)]), (0,) * 5), every)

    def test_costs_differ(self):
        every = rows_of(4, itertools.combinations(range(4), 2))
        self.assert_exchanges((every, (1, 2, 1, 2)), [(0, 2), (1, 3)])
        self.assert_exchanges((every, (1, 2, 3, 4)), [])
        self.assert_exchanges((every, (1, -1, 1, 0)), [(0, 2)])

    def test_rows_differ(self):
        self.assert_exchanges(([((1, 1, 2), 1)], (0, 0, 0)), [(0, 1)])
        self.assert_exchanges(([((1, 2, 1), 1)], (0, 0, 0)), [(0, 2)])
        self.assert_exchanges(([((1, -1), 0)], (0, 0)), [])
        self.assert_exchanges(([((1, 2), 3), ((2, 1), 3)], (0, 0)), [(0, 1)])
        self.assert_exchanges(([((1, 2), 3), ((2, 1), 4)], (0, 0)), [])
        self.assert_exchanges(([((1, 2), 3), ((2, 1), 4), ((1, 2), 4), ((2, 1), 3)], (0, 0)), [(0, 1)])

    def test_rows_alike_but_not_as_often(self):
        one = ((1, 2), 3)
        other = ((2, 1), 3)
        self.assert_exchanges(([one, one, other, other], (0, 0)), [(0, 1)])
        self.assert_exchanges(([one, other, other, one], (0, 0)), [(0, 1)])
        self.assert_exchanges(([one, one, other], (0, 0)), [])
        self.assert_exchanges(([one, other, other, other], (0, 0)), [])

    def test_alike_columns_that_are_not_exchanged(self):
        self.assert_exchanges((ring(5), (0,) * 5), [])
        self.assert_exchanges((ring(4), (0,) * 4), [(0, 2), (1, 3)])
        self.assert_exchanges((ring(3), (0,) * 3), [(0, 1), (0, 2), (1, 2)])

    def test_the_order(self):
        costs = tuple(choice % 3 for choice in range(11))
        asked = [pair for pair in itertools.combinations(range(11), 2) if (pair[1] - pair[0]) % 3 == 0]
        self.assert_exchanges(([], costs), asked)
        self.assertEqual(asked, sorted(asked))

    def test_as_turn_keeps_tells(self):
        chance = random.Random(70)
        seen = {}
        for _ in range(600):
            problem = some_problem(chance, 7)
            asked = exchanges_slowly(problem)
            seen[len(asked)] = True
            self.assert_exchanges(problem, asked)
        self.assertGreater(len(seen), 4)

    def test_sizes(self):
        chance = random.Random(71)
        every = list(itertools.combinations(range(60), 2))
        self.assert_exchanges(([((GREAT - number,) * 60, number) for number in range(400)], (GREAT,) * 60), every)
        rows = [(tuple(chance.randint(-GREAT, GREAT) for _ in range(60)), 0) for _ in range(400)]
        self.assert_exchanges((rows, (GREAT,) * 60), [])
        twins = [(row[0][:59] + (row[0][7],), row[1]) for row in rows]
        self.assert_exchanges((twins, (GREAT,) * 60), [(7, 59)])

    def test_a_new_list_each_time(self):
        problem = ([], (1, 1, 1))
        told = exchanges(problem)
        told.clear()
        self.assertEqual(exchanges(problem), [(0, 1), (0, 2), (1, 2)])


class TurnFrom(unittest.TestCase):
    def assert_turn(self, problem, one, other):
        ahead = copy.deepcopy(problem)
        turn = turn_from(problem, one, other)
        self.assertEqual(problem, ahead)
        self.assertIs(type(turn), list, (problem, one, other))
        for place in turn:
            self.assertIs(type(place), int)
        self.assertEqual(sorted(turn), list(range(len(problem[1]))))
        self.assertEqual(turn[one], other)
        self.assertTrue(turn_keeps(problem, turn), (problem, one, other, turn))
        again = turn_from(problem, one, other)
        self.assertEqual(again, turn)
        self.assertIsNot(again, turn)
        return turn

    def assert_none(self, problem, one, other):
        ahead = copy.deepcopy(problem)
        self.assertIsNone(turn_from(problem, one, other), (problem, one, other))
        self.assertEqual(problem, ahead)

    def test_the_same_choice(self):
        for problem in (([], (1,)), ([((1, 2, 3), 4)], (0, 1, 2)), (ring(5), (1, 1, 1, 2, 2)), ([((3,), 1)] * 2, (0,))):
            for choice in range(len(problem[1])):
                self.assert_turn(problem, choice, choice)

    def test_an_exchange(self):
        problem = ([((1, 1, 2), 1)], (0, 0, 0))
        self.assert_turn(problem, 0, 1)
        self.assert_turn(problem, 1, 0)
        self.assert_none(problem, 0, 2)
        self.assert_none(problem, 2, 1)

    def test_a_turn_that_is_no_exchange(self):
        # A ring that has a way round: only a turn of all choices keeps it.
        rows = [(tuple(1 if choice == first else 2 if choice == (first + 1) % 5 else 0 for choice in range(5)), 1)
                for first in range(5)]
        for one, other in itertools.product(range(5), repeat=2):
            self.assertEqual(self.assert_turn((rows, (0,) * 5), one, other),
                             [(choice + other - one) % 5 for choice in range(5)])
        # Two choices are exchanged, and with them two others.
        pairs = ([((1, 2, 0, 0), 1), ((0, 0, 1, 2), 1)], (3, 4, 3, 4))
        self.assertEqual(self.assert_turn(pairs, 0, 2), [2, 3, 0, 1])
        self.assertEqual(self.assert_turn(pairs, 3, 1), [2, 3, 0, 1])
        self.assert_none(pairs, 0, 1)
        self.assert_none(pairs, 0, 3)

    def test_costs_differ(self):
        self.assert_none(([], (1, 2)), 0, 1)
        self.assert_turn(([], (1, 2, 1)), 0, 2)
        # The choices themselves cost the same, but no turn can keep the others' costs.
        self.assert_none((ring(5), (1, 1, 1, 1, 2)), 0, 1)
        self.assert_turn((ring(5), (1, 1, 1, 1, 2)), 0, 3)
        self.assert_turn((ring(5), (1, 1, 1, 1, 2)), 1, 2)

    def test_rows_differ(self):
        self.assert_none(([((1, 2), 3)], (0, 0)), 0, 1)
        self.assert_none(([((1, 2), 3), ((2, 1), 4)], (0, 0)), 0, 1)
        self.assert_turn(([((1, 2), 3), ((2, 1), 3)], (0, 0)), 0, 1)
        self.assert_none(([((1, -1), 0)], (0, 0)), 1, 0)

    def test_rows_alike_but_not_as_often(self):
        one = ((1, 2), 3)
        other = ((2, 1), 3)
        self.assert_none(([one, other, other], (0, 0)), 0, 1)
        self.assert_turn(([one, other, other, one], (0, 0)), 0, 1)
        self.assert_none((ring(4) + ring(4)[:1], (0,) * 4), 0, 2)
        self.assert_turn((ring(4) + ring(4)[:1], (0,) * 4), 0, 1)
        self.assert_turn((ring(4) + ring(4), (0,) * 4), 0, 2)

    def test_choices_that_look_alike(self):
        # A ring of six and two of three: each choice stands in two rows, and each row has two choices.
        rows = ring(6) + [((1,) * 6, 2)]
        rings = rows_of(6, [(0, 1), (1, 2), (2, 0), (3, 4), (4, 5), (5, 3)])
        both = [(row[0] + (0,) * 4, row[1]) for row in ring(6)] + [((0,) * 6 + row[0], row[1]) for row in ring(4)]
        for one, other in itertools.product(range(6), repeat=2):
            self.assert_turn((rows, (0,) * 6), one, other)
            self.assert_turn((rings, (0,) * 6), one, other)
            self.assert_turn((both, (0,) * 10), one, other)
        for one, other in itertools.product(range(6), range(6, 10)):
            self.assert_none((both, (0,) * 10), one, other)
            self.assert_none((both, (0,) * 10), other, one)

    def test_rings_of_three_and_seven(self):
        three = rows_of(10, [(0, 1), (1, 2), (2, 0)])
        seven = rows_of(10, [(3 + step, 3 + (step + 1) % 7) for step in range(7)])
        problem = (three + seven, (0,) * 10)
        for one, other in itertools.product(range(10), repeat=2):
            if (one < 3) == (other < 3):
                self.assert_turn(problem, one, other)
            else:
                self.assert_none(problem, one, other)

    def assert_just(self, problem):
        """By all turns of a problem."""
        count = len(problem[1])
        turns = [turn for turn in itertools.permutations(range(count)) if turn_keeps(problem, list(turn))]
        seen = {}
        for one, other in itertools.product(range(count), repeat=2):
            there = any(turn[one] == other for turn in turns)
            seen[there] = True
            if there:
                self.assert_turn(problem, one, other)
            else:
                self.assert_none(problem, one, other)
        return len(seen)

    def test_places_that_look_right_but_are_not(self):
        # The rows do not tell apart at which place a choice goes round, until it is tried.
        self.assert_just((even(8, (0, 1, 3)) + even(8, (1, 2, 3)), (0,) * 8))
        self.assert_just((even(8, (0, 2, 3)) + even(8, (0, 2, 3)) + even(8, (1, 2, 3)), (0,) * 8))
        lines = ((0, 4, 6), (2, 3, 4), (3, 5, 6), (0, 2, 5), (1, 2, 6), (1, 4, 5), (0, 1, 3))
        rest = [tuple(set(range(7)) - set(line)) for line in lines]
        self.assertEqual(self.assert_just((rows_of(7, list(lines) + rest), (0,) * 7)), 1)

    def test_all_turns_gone_through(self):
        chance = random.Random(72)
        seen = {1: 0, 2: 0}
        for _ in range(300):
            seen[self.assert_just(some_problem(chance, 5))] += 1
        # With just a kind, and with both: choices that a turn leads to, and that none does.
        self.assertGreater(min(seen.values()), 50)

    def test_ten_choices(self):
        names = list(itertools.combinations(range(5), 2))
        # Ten pairs of five things; two of them have a row where they share nothing: all are alike.
        lines = [pair for pair in itertools.combinations(range(10), 2) if not set(names[pair[0]]) & set(names[pair[1]])]
        chance = random.Random(73)
        problems = [
            ([], (1,) * 10), (ring(10), (1,) * 10), (rows_of(10, lines), (1,) * 10),
            (rows_of(10, itertools.combinations(range(10), 4)), (1,) * 10), ([((GREAT,) * 10, 1)] * 400, (GREAT,) * 10),
        ]
        for problem in problems:
            for one, other in ((0, 9), (4, 5), (7, 2), (3, 3)):
                self.assert_turn(problem, one, other)
        for problem in problems[2:4]:
            marked = (problem[0] + problem[0][:1], problem[1])
            self.assert_none(marked, 0, 9)
            self.assert_none(marked, 9, 0)
        rows = [(tuple(chance.randint(0, 1) for _ in range(10)), 1) for _ in range(400)]
        for other in range(1, 10):
            self.assert_none((rows, (1,) * 10), 0, other)

    def test_ten_choices_in_blocks(self):
        # Five pairs; in each pair the choices are alike, and so are the pairs.
        rows = [(tuple(2 if choice // 2 == pair else -1 for choice in range(10)), 1) for pair in range(5)]
        for one, other in itertools.product(range(10), repeat=2):
            self.assert_turn((rows, (7,) * 10), one, other)
        for one, other in itertools.product(range(8), (8, 9)):
            self.assert_none((rows[:4], (7,) * 10), one, other)

    def test_changing_what_was_told_and_handed_in(self):
        problem = (ring(5), (1,) * 5)
        turn = turn_from(problem, 0, 2)
        asked = list(turn)
        problem[0].clear()
        self.assertEqual(turn, asked)
        turn.clear()
        self.assertEqual(turn_from((ring(5), (1,) * 5), 0, 2), asked)


if __name__ == "__main__":
    unittest.main()
