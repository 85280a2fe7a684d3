"""The way from corner to corner of the spreads to one that keeps the rows at the least cost, in whole numbers.

A corner has as many things at their ends as there are choices: choices that are 0 or 1, and rows that are just kept,
whose room (their sum less their least) is 0. These are the outer things, with a column each. All other choices, the
inner ones, are written by them as lines: a number for each column, and behind these what the choice comes to at the
corner, all times one scale. So are the costs: their numbers are the columns' prices. Rows that are not just kept
have no line, but for the one that is being brought in.

At each corner of the way no column can be moved off its end to a lesser cost; only rows and the inner choices' ends
may be broken. The first corner that breaks none is the one looked for. A row's price there is its multiplier.

A thing is the number of a choice, or the count of choices and the number of a row, for the row's room.

A choice may be held at 0 or 1: then this worth is both of its ends, and its column is not moved. From a corner that
was found one goes on to that of more rows or more holds: it is not begun anew.
"""

from nonebetter.rows import parts_of

# After so many steps on end that gain nothing, steps are taken by a slower rule that never leads in a ring.
PATIENCE = 100


def renewed(other, line, column, scale):
    """Another line when the line's thing and the column's are exchanged; the scale is the one up to then."""
    turn = line[column]
    rest = other[column]
    if turn < 0:
        turn = -turn
        rest = -rest
    if rest == 0 and turn == scale:
        return other
    # What is divided here is always a multiple of the scale: the quotients are determinants of the rows' numbers.
    numbers = [(turn * number - rest * less) // scale for number, less in zip(other, line)]
    numbers[column] = rest
    return numbers


class Tableau:
    """A corner, as it is written above, and the steps from it."""

    def __init__(self, rows, costs):
        self.size = len(costs)
        self.parts = []
        self.leasts = []
        self.weights = []
        for row in rows:
            self.add_row(row)
        self.held = {}
        self.work = 0
        self.scale = 1
        self.outer = list(range(self.size))
        self.ones = [cost < 0 for cost in costs]
        self.inner = {}
        # Where prices are alike, those of other, unlike costs decide: else columns of price 0 would lead nowhere.
        unlike = [(choice + 1) * 7919 % 1009 + 1 for choice in range(self.size)]
        self.prices = [self.first_line(costs), self.first_line(unlike)]

    def add_row(self, row):
        """Puts a row behind the others."""
        self.parts.append(parts_of(row))
        self.leasts.append(row[1])
        self.weights.append(max(1, sum([abs(number) for number in row[0]])))

    def twin(self):
        """Another tableau at the same corner, with the same rows and holds."""
        other = Tableau([], [0] * self.size)
        other.parts = list(self.parts)
        other.leasts = list(self.leasts)
        other.weights = list(self.weights)
        other.held = dict(self.held)
        other.scale = self.scale
        other.outer = list(self.outer)
        other.ones = list(self.ones)
        for choice in self.inner:
            other.inner[choice] = list(self.inner[choice])
        other.prices = [list(prices) for prices in self.prices]
        return other

    def hold(self, choice, worth):
        """Leaves a choice this worth alone."""
        self.held[choice] = worth
        if choice not in self.inner:
            column = self.outer.index(choice)
            if self.ones[column] != (worth == 1):
                self.flip(column, [])

    def is_over(self, limit, patience):
        """Whether spreads cost more than the limit, or more was done here than the patience; None for neither."""
        if limit is not None and self.prices[0][-1] > limit * self.scale:
            return True
        return patience is not None and self.work > patience

    def first_line(self, numbers):
        """The line of a sum of choices, so many times each, where all choices are outer ones."""
        return list(numbers) + [sum([number for number, one in zip(numbers, self.ones) if one])]

    def worths(self):
        """What each choice comes to at the corner, times the scale."""
        worths = [0] * self.size
        for thing, one in zip(self.outer, self.ones):
            if one:
                worths[thing] = self.scale
        for choice in self.inner:
            worths[choice] = self.inner[choice][-1]
        return worths

    def lacks(self):
        """What is broken at the corner: tuples (thing, by how much, times the scale), things rising.

        Rows are looked at only where no choice is broken: it keeps the inner choices, and so the numbers, few.
        """
        worths = self.worths()
        lacks = [(choice, self.choice_lack(choice)) for choice in sorted(self.inner)]
        if all([lack <= 0 for choice, lack in lacks]):
            lacks = [(self.size + number, self.row_lack(number, worths)) for number in range(len(self.parts))]
        return [(thing, lack) for thing, lack in lacks if lack > 0]

    def end(self, choice, side):
        """The end of a choice that is broken where it is to go to a side: its lesser one for 1; times the scale."""
        return self.held.get(choice, 1 if side == -1 else 0) * self.scale

    def choice_lack(self, choice):
        """By how much an inner choice is beyond one of its ends, times the scale."""
        worth = self.inner[choice][-1]
        return max(self.end(choice, 1) - worth, worth - self.end(choice, -1))

    def row_lack(self, number, worths):
        """What a row's sum lacks to its least, times the scale."""
        return self.leasts[number] * self.scale - sum([many * worths[choice] for choice, many in self.parts[number]])

    def furthest(self, lacks):
        """The thing that lacks most, for the size of its numbers."""
        best = None
        most = -1
        for thing, lack in lacks:
            # Rounded down, for which thing is taken changes the way, not whether it leads there.
            score = lack * 2 ** 30 // self.weight(thing)
            if score > most:
                best = thing
                most = score
        return best

    def weight(self, thing):
        """The size of the numbers of a row, or of an inner choice's line."""
        if thing < self.size:
            return sum([abs(number) for number in self.inner[thing][:-1]]) + 1
        return self.weights[thing - self.size]

    def side(self, thing):
        """-1 for a choice above its ends, which is to become less; 1 for things that are to become more."""
        return -1 if thing < self.size and self.inner[thing][-1] > self.end(thing, -1) else 1

    def line_to(self, thing, side):
        """The line of a broken thing, with what it is beyond its end as the last number."""
        if thing < self.size:
            line = list(self.inner[thing])
            line[-1] -= self.end(thing, side)
            return line
        line = [0] * (self.size + 1)
        many = [0] * self.size
        for choice, number in self.parts[thing - self.size]:
            many[choice] = number
            if choice in self.inner:
                line = [here + number * more for here, more in zip(line, self.inner[choice])]
        for column, other in enumerate(self.outer):
            if other < self.size:
                line[column] += many[other] * self.scale
                if self.ones[column]:
                    line[-1] += many[other] * self.scale
        line[-1] -= self.leasts[thing - self.size] * self.scale
        return line

    def helps(self, number, column, side):
        """Whether moving the column, with this number in a line, off its end leads the line's thing to its side."""
        if self.outer[column] in self.held:
            return False
        if self.ones[column]:
            return number * side < 0
        return number * side > 0

    def nearer(self, line, column, other):
        """Whether a column's price is less than the other's, each for as much of the line's thing."""
        for prices in self.prices:
            one = (-prices[column] if self.ones[column] else prices[column]) * abs(line[other])
            two = (-prices[other] if self.ones[other] else prices[other]) * abs(line[column])
            if one != two:
                return one < two
        return self.outer[column] < self.outer[other]

    def nearest(self, line, side):
        """The column of the least price of those that help, or None."""
        found = None
        for column in range(self.size):
            if self.helps(line[column], column, side) and (found is None or self.nearer(line, column, found)):
                found = column
        return found

    def flip(self, column, lines):
        """Moves a choice from its end to the other one, in lines that are not kept here too."""
        sign = -1 if self.ones[column] else 1
        for line in [self.inner[choice] for choice in self.inner] + self.prices + lines:
            line[-1] += sign * line[column]
        self.ones[column] = not self.ones[column]

    def column_for(self, line, side, plain):
        """The column to be exchanged with a broken thing, or None where nothing mends it.

        Choices that are not enough to mend it, from one end to the other, are moved on the way, unless it is plain.
        """
        column = self.nearest(line, side)
        while column is not None and not plain and self.is_too_little(line, column):
            self.flip(column, [line])
            column = self.nearest(line, side)
        return column

    def is_too_little(self, line, column):
        """Whether the column is a choice's that, moved to its other end, does not mend the line's thing."""
        return self.outer[column] < self.size and abs(line[column]) < abs(line[-1])

    def is_idle(self, column):
        """Whether an exchange with the column gains nothing."""
        return all([prices[column] == 0 for prices in self.prices])

    def exchange(self, thing, line, column, side):
        """Puts a broken thing at its end, into the column; what was there becomes an inner choice, or a free row."""
        one = self.end(thing, side) > 0
        # About so many numbers are reckoned with in this step, long ones counted for several.
        numbers = (len(self.inner) + 3) * self.size + len(self.parts) * len(self.inner)
        self.work += numbers * (1 + self.scale.bit_length() // 64)
        self.inner.pop(thing, None)
        for choice in list(self.inner):
            self.inner[choice] = renewed(self.inner[choice], line, column, self.scale)
        self.prices = [renewed(prices, line, column, self.scale) for prices in self.prices]
        freed = self.outer[column]
        if freed < self.size:
            sign = -1 if line[column] > 0 else 1
            numbers = [sign * number for number in line]
            numbers[column] = -sign * self.scale
            if self.ones[column]:
                numbers[-1] += abs(line[column])
            self.inner[freed] = numbers
        self.scale = abs(line[column])
        self.outer[column] = thing
        self.ones[column] = one

    def times(self, line, sign):
        """For each row the line's number at its column, with the sign; 0 for rows without one."""
        times = [0] * len(self.leasts)
        for column, thing in enumerate(self.outer):
            if thing >= self.size:
                times[thing - self.size] = sign * line[column]
        return times

    def times_against(self, thing, line, side):
        """Multipliers, of scale 0, that show that a broken thing cannot be mended."""
        times = self.times(line, -side)
        if thing >= self.size:
            times[thing - self.size] = self.scale
        return times


def settle(tableau, limit, patience):
    """Leads the tableau to the corner of least cost; tells multipliers, and each choice's worth times their scale.

    Worths are None where it comes to no such corner: where no spread keeps the rows with the holds, with a scale of 0;
    where spreads cost more than the limit (None for none); or where the patience with steps (None: endless) is over.
    """
    idle = 0
    while True:
        lacks = tableau.lacks()
        if len(lacks) == 0:
            return (tableau.scale, tableau.times(tableau.prices[0], 1), tableau.worths())
        if tableau.is_over(limit, patience):
            return (tableau.scale, tableau.times(tableau.prices[0], 1), None)
        # The first thing of all, and no moves on the way: Bland's rule, which never leads in a ring.
        plain = idle >= PATIENCE
        thing = lacks[0][0] if plain else tableau.furthest(lacks)
        side = tableau.side(thing)
        line = tableau.line_to(thing, side)
        column = tableau.column_for(line, side, plain)
        if column is None:
            return (0, tableau.times_against(thing, line, side), None)
        idle = idle + 1 if tableau.is_idle(column) else 0
        tableau.exchange(thing, line, column, side)


def least_corner(rows, costs):
    """A tuple (scale, times, worths): multipliers, and each choice's worth times the scale at a corner of least cost.

    Where no spread keeps the rows the scale is 0, and worths are None.
    """
    return settle(Tableau(rows, costs), None, None)
