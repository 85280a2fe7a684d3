"""The rows that right lines of a paper tell, and a sheet on which a paper is written."""


def single_row(count, choice, number, least):
    """The row with the number at the choice, and 0 else."""
    numbers = [0] * count
    numbers[choice] = number
    return (tuple(numbers), least)


def better_row(problem, best):
    """The row that points keep which cost less than best."""
    return (tuple([-cost for cost in problem[1]]), 1 - best)


def rows_below(problem, best):
    """The problem's rows, and behind them, where best is a number, the row of points that cost less."""
    if best is None:
        return list(problem[0])
    return problem[0] + [better_row(problem, best)]


def sum_row(count, parts):
    """The rows of the tuples (row, times), each so many times, added up."""
    numbers = [0] * count
    least = 0
    for row, many in parts:
        numbers = [number + many * more for number, more in zip(numbers, row[0])]
        least += many * row[1]
    return (tuple(numbers), least)


def share_row(row, by):
    """The row divided by a number, its numbers (where they are no multiples) and its least rounded up."""
    # Two changes of sign, for // rounds down.
    return (tuple([-(-number // by) for number in row[0]]), -(-row[1] // by))


def shut_row(count, holds):
    """The shut-out of the holds: the row that just the points keep which do not have all of them."""
    numbers = [0] * count
    least = 1
    for choice, worth in holds:
        numbers[choice] = 1 - 2 * worth
        least -= worth
    return (tuple(numbers), least)


def without(row, choice):
    """The row's numbers with 0 at the choice."""
    return row[0][:choice] + (0,) + row[0][choice + 1:]


def either_row(one, other, choice):
    """The row that follows of one where the choice is 1, and of other where it is 0."""
    return (without(one, choice), min(one[1] - one[0][choice], other[1]))


def like_row(turn):
    """The row that a point keeps which comes, in the order of tuples, not behind its like by the turn."""
    numbers = [0] * len(turn)
    weight = 1
    for choice in range(len(turn) - 1, -1, -1):
        numbers[choice] += weight
        numbers[turn[choice]] -= weight
        weight *= 2
    return (tuple(numbers), 0)


class Sheet:
    """A paper that is being written, of a problem with so many rows."""

    def __init__(self, rows):
        self.rows = rows
        self.lines = []
        self.places = {}

    def put(self, line):
        """Writes a line behind the others, and tells its number."""
        self.lines.append(line)
        return len(self.lines) - 1

    def line_of(self, number):
        """The number of the line of a row of the problem, or, behind them, of ("better",); it stands but once."""
        if number not in self.places:
            line = ("given", number) if number < self.rows else ("better",)
            self.places[number] = self.put(line)
        return self.places[number]


def named_by(line):
    """The numbers of the lines that a line names."""
    if line[0] == "sum":
        return [place for place, many in line[1]]
    if line[0] in ("share", "shut"):
        return [line[1]]
    return list(line[1:3]) if line[0] == "either" else []


def renumbered(line, places):
    """The line with the lines that it names called by their places; its lists are new ones."""
    if line[0] == "sum":
        return ("sum", [(places[place], many) for place, many in line[1]])
    if line[0] == "share":
        return ("share", places[line[1]], line[2])
    if line[0] == "shut":
        return ("shut", places[line[1]], list(line[2]))
    if line[0] == "either":
        return ("either", places[line[1]], places[line[2]], line[3])
    return ("like", list(line[1])) if line[0] == "like" else line


def copied(paper):
    """The paper with lists of its own."""
    places = list(range(len(paper)))
    return [renumbered(line, places) for line in paper]
