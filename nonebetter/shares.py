"""Shares: rows added up, raised to multiples of a number, and divided by it; papers of them, and how they are found.

A share says more than its rows do of spreads, for points come to whole numbers alone: its least is rounded up.
"""

from nonebetter.lines import Sheet, rows_below, share_row, sum_row
from nonebetter.ratios import divisor
from nonebetter.rows import weighed

# Shares by greater primes than these cut off little, and are not looked for.
PRIMES = (2, 3, 5, 7, 11, 13, 17, 19, 23, 29, 31, 37, 41, 43, 47)

# Of rows that are just kept no more than these are added up: what others would yield is mostly there already.
MANY = 150


def share(rows, times, by):
    """The share of the rows, each so many times, by a number."""
    return share_row(sum_row(len(rows[0][0]), list(zip(rows, times))), by)


def put_share(sheet, total, parts, by):
    """Writes lines whose last one tells the share of a sum of told rows, of these parts; tells its number."""
    raised = []
    for choice, number in enumerate(total[0]):
        if number % by != 0:
            raised.append((sheet.put(("low", choice)), -number % by))
    return sheet.put(("share", sheet.put(("sum", parts + raised)), by))


def share_lines(problem, best, times, by):
    """A paper whose last line tells the share of the problem's rows."""
    # Times may have a number more, behind the others, for the row of points that cost less than best.
    asked = [(number, many) for number, many in enumerate(times) if many > 0]
    if len(asked) == 0:
        # A sum has one part at least.
        asked = [(0, 0)]
    rows = rows_below(problem, best)
    total = sum_row(len(problem[1]), [(rows[number], many) for number, many in asked])
    sheet = Sheet(len(problem[0]))
    put_share(sheet, total, [(sheet.line_of(number), many) for number, many in asked], by)
    return sheet.lines


def scaled(spread):
    """The spread as a tuple (scale, worths) of whole numbers: each worth is scale times the spread's."""
    scale = 1
    for part in spread:
        scale = scale * part[1] // divisor(scale, part[1])
    return (scale, [part[0] * (scale // part[1]) for part in spread])


def lack(row, scale, worths):
    """What the worths lack to keep the row, scale times; below 1 where they keep it."""
    return row[1] * scale - weighed(row[0], worths)


def dividers(row):
    """The numbers by which a row alone is divided to find shares: 1, what divides it all, and its own numbers."""
    whole = 0
    for number in row[0]:
        whole = divisor(whole, number)
    return [by for by in sorted(set([1, 2, 3, whole] + [abs(number) for number in row[0]])) if by > 0]


def share_of_one(row, scale, worths):
    """The number by which the row's share is the one that the worths lack most, or None."""
    most = 0
    found = None
    spare = -lack(row, scale, worths)
    for by in dividers(row):
        # Where a row can spare as much as the number, its share is kept too.
        if spare < by * scale:
            here = lack(share_row(row, by), scale, worths)
            if here > most:
                most = here
                found = by
    return found


def single_shares(rows, scale, worths):
    """Tuples (times, by) of one row each."""
    found = []
    for number, row in enumerate(rows):
        by = share_of_one(row, scale, worths)
        if by is not None:
            found.append((tuple([1 if other == number else 0 for other in range(len(rows))]), by))
    return found


def cleared(line, other, column, prime):
    """The line less the other one so many times that it has 0 at the column; all modulo the prime."""
    if line[column] == 0:
        return line
    # The other one has 1 there.
    many = line[column]
    return [(number - many * less) % prime for number, less in zip(line, other)]


def in_ones(line, column, prime):
    """The line so many times that it has 1 at the column, where it has not 0; all modulo the prime."""
    many = [factor for factor in range(1, prime) if factor * line[column] % prime == 1][0]
    return [number * many % prime for number in line]


def combined(lines, width, prime):
    """What the lines yield, added up so that the first numbers, so many, are all 0; all modulo the prime."""
    left = lines
    for column in range(width):
        place = 0
        while place < len(left) and left[place][column] == 0:
            place += 1
        if place < len(left):
            other = in_ones(left[place], column, prime)
            left = [cleared(line, other, column, prime) for line in left[:place] + left[place + 1:]]
    return left


def prime_shares(rows, scale, worths, prime):
    """Tuples (times, prime) of rows that are just kept, whose sum the prime divides but for its least.

    Only choices above 0 count: whatever the others' numbers are raised by, they stay at 0.
    """
    just = [number for number, row in enumerate(rows) if lack(row, scale, worths) == 0][:MANY]
    columns = [choice for choice, worth in enumerate(worths) if worth > 0]
    lines = []
    for number in just:
        row = rows[number]
        line = [row[0][choice] % prime for choice in columns] + [row[1] % prime]
        lines.append(line + [1 if other == number else 0 for other in just])
    width = len(columns)
    found = []
    for line in combined(lines, width, prime):
        if line[width] != 0:
            # With a least of 1 above a multiple most is gained by rounding it up.
            often = dict(zip(just, in_ones(line, width, prime)[width + 1:]))
            found.append((tuple([often.get(number, 0) for number in range(len(rows))]), prime))
    return found


def shares(rows, spread):
    """Tuples (times, by) of shares that the spread does not keep; perhaps none are found."""
    whole = scaled(spread)
    scale = whole[0]
    worths = whole[1]
    found = single_shares(rows, scale, worths)
    for prime in PRIMES:
        # Others have none: the sum would be kept just so by the spread, and its least divided by the prime too.
        if scale % prime == 0:
            found += prime_shares(rows, scale, worths, prime)
    seen = {}
    told = []
    for many, by in found:
        row = share(rows, many, by)
        if row not in seen:
            seen[row] = True
            told.append((many, by))
    return told
