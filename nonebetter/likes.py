"""Likenesses: turns that keep a problem.

A turn is looked for by colours. Choices that no turn with what is fixed so far leads into one another get unlike
colours, step by step: a row is known by its least and the colours that its numbers stand at, a choice by the rows
that it stands in. There are two lists of colours, one of the choices, one of the places to which they are turned.
"""

from nonebetter.rows import parts_of, turn_keeps


def exchanged(row, one, other):
    """The row with the numbers of two choices exchanged."""
    numbers = list(row[0])
    numbers[one] = row[0][other]
    numbers[other] = row[0][one]
    return (tuple(numbers), row[1])


def counted(things):
    """A dict from each thing to how often it is there."""
    often = {}
    for thing in things:
        often[thing] = often.get(thing, 0) + 1
    return often


def may_exchange(often, one, other):
    """Whether the rows, counted, are the same with two choices exchanged."""
    for row in often:
        if row[0][one] != row[0][other] and often.get(exchanged(row, one, other)) != often[row]:
            return False
    return True


def exchanges(problem):
    """The pairs of choices, the lesser one first, whose exchange keeps the problem, sorted."""
    rows = problem[0]
    costs = problem[1]
    often = counted(rows)
    # Unlike columns are quickly seen; only of the few that are alike each row is turned.
    columns = [(cost, sorted([(row[1], row[0][choice]) for row in rows])) for choice, cost in enumerate(costs)]
    told = []
    for one in range(len(costs)):
        for other in range(one + 1, len(costs)):
            if columns[one] == columns[other] and may_exchange(often, one, other):
                told.append((one, other))
    return told


def named(one, other):
    """The two lists with a number in the place of each thing, the same for things alike; None where they are not alike.

    Lists are alike where they have the same things, each as often.
    """
    if sorted(one) != sorted(other):
        return None
    names = dict([(thing, name) for name, thing in enumerate(sorted(set(one)))])
    return ([names[thing] for thing in one], [names[thing] for thing in other])


class Colours:
    """A problem as it is looked through for turns, and how colours are made finer."""

    def __init__(self, problem, patience):
        self.problem = problem
        # How many numbers may still be looked at; None where that is not bounded.
        self.patience = patience
        self.leasts = [row[1] for row in problem[0]]
        self.parts = [parts_of(row) for row in problem[0]]
        self.stands = [[] for cost in problem[1]]
        for number, parts in enumerate(self.parts):
            for choice, here in parts:
                self.stands[choice].append((number, here))

    def row_looks(self, colours):
        """What each row looks like: its least, and the colours at which its numbers stand."""
        looks = []
        for least, parts in zip(self.leasts, self.parts):
            looks.append((least, tuple(sorted([(colours[choice], here) for choice, here in parts]))))
        return looks

    def choice_looks(self, colours, rows):
        """What each choice looks like: its colour, and the rows, called by their names, in which it stands."""
        looks = []
        for colour, places in zip(colours, self.stands):
            looks.append((colour, tuple(sorted([(rows[number], here) for number, here in places]))))
        return looks

    def finer(self, pair):
        """The two lists of colours, made finer as far as this goes; None where they are not alike."""
        known = 0
        while True:
            if self.patience is not None:
                self.patience -= sum([len(places) for places in self.stands]) + len(self.stands)
            rows = named(self.row_looks(pair[0]), self.row_looks(pair[1]))
            if rows is None:
                return None
            pair = named(self.choice_looks(pair[0], rows[0]), self.choice_looks(pair[1], rows[1]))
            if pair is None or len(set(pair[0])) == known:
                return pair
            known = len(set(pair[0]))

    def fixed(self, pair, choice, place):
        """The two lists of colours, made finer, where the choice is turned to the place; or None."""
        one = list(pair[0])
        other = list(pair[1])
        # A colour that no other choice has: names are less than the count of choices.
        one[choice] = len(one)
        other[place] = len(one)
        return self.finer((one, other))

    def is_tired(self):
        """Whether more was looked at than there was patience for."""
        return self.patience is not None and self.patience < 0

    def turn_of(self, pair, choice):
        """A turn by the colours that moves the choice to the least place of those behind it, or None."""
        for place in range(choice + 1, len(pair[1])):
            if pair[1][place] == pair[0][choice]:
                turn = self.turn_by(self.fixed(pair, choice, place))
                if turn is not None:
                    return turn
        return None

    def turn_by(self, pair):
        """A turn that keeps the problem and turns each choice to a place of its colour, or None."""
        if pair is None or self.is_tired():
            return None
        choice = loose(pair[0])
        if choice is None:
            turn = [pair[1].index(colour) for colour in pair[0]]
            return turn if turn_keeps(self.problem, turn) else None
        places = [place for place, colour in enumerate(pair[1]) if colour == pair[0][choice]]
        # Its own place first: so a turn mostly moves no more than it must.
        for place in sorted(places, key=lambda other: other != choice):
            turn = self.turn_by(self.fixed(pair, choice, place))
            if turn is not None:
                return turn
        return None


def loose(colours):
    """The first choice of those with the rarest colour that is not a single one's, or None where there is none."""
    often = counted(colours)
    choices = [choice for choice, colour in enumerate(colours) if often[colour] > 1]
    return min(choices, key=lambda choice: often[colours[choice]], default=None)


def turn_from(problem, one, other):
    """A turn that keeps the problem and has other at the place one, or None."""
    colours = Colours(problem, None)
    pair = colours.finer((problem[1], problem[1]))
    if pair[0][one] != pair[1][other]:
        return None
    return colours.turn_by(colours.fixed(pair, one, other))


def exchange_turn(count, one, other):
    """The turn that exchanges just two choices."""
    turn = list(range(count))
    turn[one] = other
    turn[other] = one
    return turn


def some_turns(problem, patience):
    """Turns that keep the problem, for each choice one at most: it moves this choice, and none ahead of it."""
    count = len(problem[1])
    partners = {}
    for one, other in exchanges(problem):
        partners.setdefault(one, other)
    colours = Colours(problem, patience)
    pair = colours.finer((problem[1], problem[1]))
    told = []
    for choice in range(count):
        if choice in partners:
            told.append(exchange_turn(count, choice, partners[choice]))
        elif not colours.is_tired():
            turn = colours.turn_of(pair, choice)
            if turn is not None:
                told.append(turn)
        # Where all colours are unlike no turn is left.
        if loose(pair[0]) is not None and not colours.is_tired():
            pair = colours.fixed(pair, choice, choice)
    return told
