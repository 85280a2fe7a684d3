"""The search for a point that keeps a problem at the least cost, and for the paper that none is better.

Choices are held one behind another, and what rows force is passed on. Where a row breaks, the holds with which it does
are shut out by a line of the paper, and the last one of them is held the other way. Where a point is found, the search
goes on for those that cost less; it is over when the shut-out of no holds at all is written.

The deeds help: corners tell by how much the holds cost at the least, shares are further rows, likes are rows that keep
but one of points alike, and learnt shut-outs are kept as rows.
"""

from nonebetter.branching import Branching
from nonebetter.corners import lowest
from nonebetter.judge import rows_told
from nonebetter.likes import some_turns
from nonebetter.lines import Sheet, like_row, share_row, single_row, sum_row
from nonebetter.passing import put_steps
from nonebetter.ratios import divisor, ratio
from nonebetter.rows import cost_of, parts_of
from nonebetter.shares import lack, put_share, shares
from nonebetter.shorter import trimmed
from nonebetter.tableau import Tableau, settle
from nonebetter.trail import Trail

# All that a search may use.
DEEDS = ("corners", "shares", "likes", "learnt")

# How often shares are looked for, and how many are put in at once: more of them slow the search down.
ROUNDS = 6
AT_ONCE = 12

# How many learnt rows are kept: more of them slow passing on down.
MEMORY = 600

# How many rows of a paper that is gone on from are watched, and up to which numbers corners are made of them: greater
# ones make the reckoning slow.
TAKEN = 300
GREATEST = 999999999999999999

# How many numbers are reckoned with, about, on the way to one corner, and how many are looked at for likes. Where that
# is not enough the search does without.
CORNER_PATIENCE = 20000000
LIKES_PATIENCE = 300000


def common_part(numbers):
    """The greatest number that divides all of these; 1 where all are 0."""
    part = 0
    for number in numbers:
        part = divisor(part, number)
    return max(1, part)


def is_idle(row):
    """Whether every point keeps the row."""
    return sum([number for number in row[0] if number < 0]) >= row[1]


def rows_of_use(problem, paper):
    """Of the rows that right lines tell the shortest ones, as tuples (row, line); no row that says nothing new."""
    known = dict([(row, True) for row in problem[0]])
    found = []
    for line, row in enumerate(rows_told(problem, None, paper)):
        if row not in known and not is_idle(row):
            known[row] = True
            found.append((row, line))
    return sorted(found, key=lambda pair: len(parts_of(pair[0])))[:TAKEN]


class Knot:
    """A search as far as it has come."""

    def __init__(self, problem, deeds):
        self.problem = problem
        self.deeds = deeds
        self.size = len(problem[1])
        self.sheet = Sheet(len(problem[0]))
        self.trail = Trail(self.size)
        self.branching = Branching(problem[1])
        self.point = None
        self.best = None
        self.done = False
        # The rows that corners and shares are made of, with their numbers.
        self.laid = []
        for row in problem[0]:
            self.lay(row)
        # Shares know that costs differ by this part at least: they are reckoned in it.
        self.part = common_part(problem[1]) if "shares" in deeds else 1
        self.costs = [cost // self.part for cost in problem[1]]
        # What points may cost at the most; at first all of them keep to it, and the row of it forces nothing.
        self.limit = sum([cost for cost in self.costs if cost > 0])
        self.better = self.put_row(self.better_row())
        # Corners along the trail, each with the count of steps that it knows of.
        self.corners = [(0, Tableau(problem[0], self.costs))]
        # At a corner that is not whole: its scale, and the choices' worths.
        self.spread = None
        self.rounds = ROUNDS if "shares" in deeds else 0
        self.is_liked = "likes" not in deeds
        self.learnt = []
        # Watched rows of a paper that was gone on from, with their numbers; corners are not made of them yet.
        self.taken = []
        self.branching.begin_with(self.trail)

    def put_row(self, row):
        """Puts in a row that is watched, and tells its number."""
        number = self.trail.add_parts(parts_of(row), row[1])
        self.trail.watch(number)
        return number

    def lay(self, row):
        """Puts in a row of which corners and shares are made too."""
        number = self.put_row(row)
        self.laid.append((row, number))
        return number

    def take_over(self, paper):
        """Begins the sheet with right lines, and watches some of their rows."""
        for line in paper:
            place = self.sheet.put(line)
            if line[0] == "given":
                self.sheet.places.setdefault(line[1], place)
        for row, place in rows_of_use(self.problem, paper):
            number = self.put_row(row)
            self.sheet.places[number] = place
            # Likes have great numbers too, and sums say less than what was made of them.
            if paper[place][0] not in ("like", "sum") and self.trail.reaches[number] <= GREATEST:
                self.taken.append((row, number))

    def better_row(self):
        """The row of points that cost no more than the limit."""
        return (tuple([-cost for cost in self.costs]), -self.limit)

    def step(self):
        """Passes on, and then learns, looks for more to pass on, takes a point, or branches."""
        broken = self.trail.pass_on()
        self.spread = None
        if broken is None and len(self.trail.marks) == 0:
            self.put_units()
        if broken is None and "corners" in self.deeds and None in self.trail.held:
            broken = self.look_at_corner()
        if broken is None and len(self.trail.marks) == 0:
            self.put_more_rows()
        if broken is not None:
            self.learn(broken)
        elif len(self.trail.asked) == 0:
            self.go_on()

    def go_on(self):
        """Takes the point where all choices are held, else holds one more."""
        free = [choice for choice, worth in enumerate(self.trail.held) if worth is None]
        if len(free) == 0:
            self.take(tuple(self.trail.held))
        elif self.spread is None:
            self.trail.branch(self.branching.hold_of(free))
        else:
            self.trail.branch(self.branching.hold_by(free, self.spread[0], self.spread[1]))

    def take(self, point):
        """Takes a point that costs less than those ahead of it: only points that cost still less are looked for."""
        self.point = point
        self.best = cost_of(self.problem, point)
        limit = (self.best - 1) // self.part
        self.trail.tighten(self.better, self.limit - limit)
        self.limit = limit
        if self.part > 1 and self.better not in self.sheet.places:
            self.sheet.places[self.better] = self.sheet.put(("share", self.sheet.put(("better",)), self.part))

    def put_units(self):
        """Writes the shut-outs of what is forced without holds: steps rest on these, not on all the steps ahead."""
        trail = self.trail
        for place in range(len(trail.steps)):
            step = trail.steps[place]
            if len(trail.parts[step[2]]) > 1:
                ahead = sorted([trail.spots[choice] for choice in trail.why_forced(step)])
                holds = [(step[0], 1 - step[1])]
                line = put_steps(self.sheet, holds, [trail.steps[spot] for spot in ahead], step[2])
                trail.steps[place] = (step[0], step[1], self.put_shut_out(holds, line))

    def put_shut_out(self, holds, line):
        """Puts in the shut-out of holds that a line tells, not watched, and tells its number."""
        least = 1 - sum([worth for choice, worth in holds])
        number = self.trail.add_parts([(choice, 1 - 2 * worth) for choice, worth in holds], least)
        self.sheet.places[number] = line
        return number

    def learn(self, broken):
        """Shuts out holds with which a row breaks, and holds the last one of them the other way."""
        trail = self.trail
        blamed = trail.blame(broken)
        holds = blamed[0]
        steps = blamed[1]
        line = put_steps(self.sheet, holds, steps, broken)
        if len(holds) == 0:
            self.done = True
            return
        number = self.put_shut_out(holds, line)
        self.branching.count_in([choice for choice, worth in holds] + [step[0] for step in steps])
        self.branching.remember(trail.steps)
        # Back to where the holds but the last one were there already.
        spot = trail.spots[holds[-2][0]] if len(holds) > 1 else -1
        trail.undo(min([mark for mark in trail.marks if mark > spot]))
        while self.corners[-1][0] > len(trail.steps):
            self.corners.pop()
        if "learnt" in self.deeds and len(holds) > 1:
            self.keep(number)
        trail.hold(holds[-1][0], 1 - holds[-1][1], number)

    def keep(self, number):
        """Watches a learnt row, and of too many no more the longer ones of the older half."""
        self.trail.watch(number)
        self.learnt.append(number)
        if len(self.learnt) > MEMORY:
            older = self.learnt[:MEMORY // 2]
            left = dict([(other, True) for other in older if len(self.trail.parts[other]) > 3])
            self.trail.leave(left)
            self.learnt = [other for other in self.learnt if other not in left]

    def look_at_corner(self):
        """Looks at the corner with the holds; tells the number of a row that breaks, or None."""
        table = self.table_here()
        found = settle(table, None if self.best is None else self.limit, CORNER_PATIENCE)
        scale = found[0]
        worths = found[2]
        if worths is not None:
            self.look_at_spread(scale, worths)
        # Where there is no best there is no row of it, and a bound says nothing.
        if scale > 0 and self.best is None:
            return None
        number = self.put_sum(lowest(scale, found[1]))
        if self.trail.spares[number] < 0:
            return number
        self.trail.force(number)
        return None

    def table_here(self):
        """The tableau of the last corner on the trail, with what was held since."""
        last = self.corners[-1]
        table = last[1].twin()
        for choice, worth, number in self.trail.steps[last[0]:]:
            table.hold(choice, worth)
        if len(self.trail.marks) == 0:
            # What is held without a mark is never taken back.
            self.corners = []
        self.corners.append((len(self.trail.steps), table))
        return table

    def look_at_spread(self, scale, worths):
        """Takes the point of a spread that is whole and costs less than best; keeps another one for branching."""
        if any([worth % scale != 0 for worth in worths]):
            self.spread = (scale, worths)
            return
        point = tuple([worth // scale for worth in worths])
        if self.best is None or cost_of(self.problem, point) < self.best:
            self.take(point)

    def added_up(self, sources, times):
        """The sum of rows, given with their numbers, each so many times, and its parts as a line names them."""
        asked = [(source[0], source[1], many) for source, many in zip(sources, times) if many > 0]
        total = sum_row(self.size, [(row, many) for row, number, many in asked])
        return (total, [(self.sheet.line_of(number), many) for row, number, many in asked])

    def put_sum(self, multipliers):
        """Puts in the sum of the laid rows, and of the row of best, each so many times; not watched."""
        sources = self.laid + [(self.better_row(), self.better)]
        added = self.added_up(sources, list(multipliers[1]) + [multipliers[0]])
        total = added[0]
        number = self.trail.add_parts(parts_of(total), total[1])
        self.sheet.places[number] = self.sheet.put(("sum", added[1]))
        return number

    def put_more_rows(self):
        """Puts in rows that help, ahead of branching: shares, and where no more of them are to be had, likes."""
        if len(self.trail.asked) == 0 and self.spread is not None:
            self.lay_taken()
        if len(self.trail.asked) == 0 and self.rounds > 0:
            self.rounds -= 1
            self.put_shares()
        if len(self.trail.asked) == 0 and not self.is_liked:
            self.is_liked = True
            self.put_likes()

    def lay_taken(self):
        """Makes corners of some rows taken over that the spread does not keep."""
        lacking = [pair for pair in self.taken if lack(pair[0], self.spread[0], self.spread[1]) > 0][:AT_ONCE]
        for row, number in lacking:
            self.laid.append((row, number))
            self.corners[-1][1].add_row(row)
            self.trail.asked.append(number)
        self.taken = [pair for pair in self.taken if pair not in lacking]

    def put_likes(self):
        """Puts in rows of turns that keep the problem."""
        for turn in some_turns(self.problem, LIKES_PATIENCE):
            number = self.put_row(like_row(turn))
            self.sheet.places[number] = self.sheet.put(("like", turn))

    def put_shares(self):
        """Puts in some shares that the spread does not keep; without corners, that of halves."""
        if "corners" not in self.deeds:
            self.rounds = 0
            self.put_shares_off([(1, 2)] * self.size)
        elif self.spread is not None:
            scale = self.spread[0]
            self.put_shares_off([ratio(worth, scale) for worth in self.spread[1]])

    def put_shares_off(self, spread):
        """Puts in some shares that a spread does not keep."""
        sources = list(self.laid)
        # That a choice is 1 at the most is a row too.
        for choice, part in enumerate(spread):
            if part == (1, 1):
                number = self.trail.add_parts([(choice, -1)], -1)
                self.sheet.places[number] = self.sheet.put(("high", choice))
                sources.append((single_row(self.size, choice, -1, -1), number))
        # A share by 1 of one row is this row.
        told = [pair for pair in shares([row for row, number in sources], spread) if pair[1] > 1]
        for times, by in told[:AT_ONCE]:
            added = self.added_up(sources, times)
            row = share_row(added[0], by)
            line = put_share(self.sheet, added[0], added[1], by)
            self.sheet.places[self.lay(row)] = line
            self.corners[-1][1].add_row(row)


def search_from(problem, deeds, paper):
    """As search, from right lines of the problem, with which its own paper begins."""
    knot = Knot((list(problem[0]), problem[1]), list(deeds))
    knot.take_over(paper)
    while not knot.done:
        knot.step()
    return (knot.point, knot.best, trimmed(knot.sheet.lines, len(paper)))


def search(problem, deeds):
    """A point of the least cost, its cost, and a paper that none is better; or None, None and a paper of no point."""
    return search_from(problem, deeds, [])
