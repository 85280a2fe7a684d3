"""Changes of problems, what of a paper is still right behind them, and the search that goes on from there."""

from nonebetter.errors import NoStep
from nonebetter.judge import row_told
from nonebetter.kinds import is_number_of, is_pair, is_whole
from nonebetter.knots import search_from
from nonebetter.lines import renumbered


def is_row(thing, count):
    """Whether a thing is a row of so many choices."""
    if not is_pair(thing) or not isinstance(thing[0], tuple) or len(thing[0]) != count:
        return False
    return all([is_whole(number) for number in thing[0] + thing[1:]])


def widened(row, more):
    """The row with so many noughts behind its numbers."""
    return (row[0] + (0,) * more, row[1])


def with_row(problem, change):
    """The problem with a row put in behind the others."""
    row = change[1]
    if not is_row(row, len(problem[1])):
        raise NoStep("no row of this problem")
    return (problem[0] + [row], problem[1])


def with_less(problem, change):
    """The problem with the row of a number taken out."""
    number = change[1]
    if not is_number_of(number, len(problem[0])):
        raise NoStep("no row with this number")
    return (problem[0][:number] + problem[0][number + 1:], problem[1])


def with_cost(problem, change):
    """The problem with the cost of a choice exchanged."""
    choice = change[1]
    if not is_number_of(choice, len(problem[1])) or not is_whole(change[2]):
        raise NoStep("no choice of this problem, or no cost")
    return (list(problem[0]), problem[1][:choice] + (change[2],) + problem[1][choice + 1:])


def with_choice(problem, change):
    """The problem with a choice put in behind the others, of which no row knows."""
    if not is_whole(change[1]):
        raise NoStep("no cost")
    return ([widened(row, 1) for row in problem[0]], problem[1] + (change[1],))


LENGTHS = {"row": 2, "less": 2, "cost": 3, "choice": 2}

CHANGES = {"row": with_row, "less": with_less, "cost": with_cost, "choice": with_choice}


def changed(problem, change):
    """The problem with one of the four changes; others are refused with NoStep."""
    if not isinstance(change, tuple) or len(change) == 0 or not isinstance(change[0], str):
        raise NoStep("no change")
    word = change[0]
    if word not in CHANGES or len(change) != LENGTHS[word]:
        raise NoStep("no change")
    return CHANGES[word](problem, change)


class Carrier:
    """Lines of one problem that are brought over to another one, as far as this has come."""

    def __init__(self, problem, best, other, other_best):
        self.problem = problem
        self.best = best
        self.other = other
        self.other_best = other_best
        self.more = len(other[1]) - len(problem[1])
        # The rows that the old lines told, None where one is not right, and the new numbers of these lines.
        self.old = []
        self.places = []
        # The new lines, their rows, and for each row its line.
        self.lines = []
        self.told = []
        self.known = {}
        self.numbers = {}
        for number, row in enumerate(other[0]):
            self.numbers.setdefault(row, number)

    def bring(self, line):
        """Brings a line over where it can be."""
        row = row_told(self.problem, self.best, self.old, line)
        self.old.append(row)
        self.places.append(None if row is None else self.place_of(line, widened(row, self.more)))

    def place_of(self, line, row):
        """The number of a new line that tells the row; None where the old one does not tell it in the other problem."""
        # What names a line that is not carried names None, and is not right.
        new = renumbered(line, self.places)
        if line[0] == "given":
            new = ("given", self.numbers.get(row))
        if row_told(self.other, self.other_best, self.told, new) != row:
            return None
        if row not in self.known:
            self.known[row] = len(self.lines)
            self.lines.append(new)
            self.told.append(row)
        return self.known[row]


def carried(problem, best, paper, other, other_best):
    """A paper of the lines that are right in another problem too, and for each old line its number there, or None."""
    carrier = Carrier(problem, best, other, other_best)
    for line in paper:
        carrier.bring(line)
    return (carrier.lines, carrier.places)


def search_on(problem, deeds, paper):
    """As search, from right lines of the problem for best None, with all of which its own paper begins."""
    return search_from(problem, deeds, paper)
