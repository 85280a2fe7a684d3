"""Spreads, multipliers and their bounds: the least cost of a spread that keeps rows, and papers of it."""

from nonebetter.lines import Sheet, rows_below, sum_row
from nonebetter.ratios import divisor, ratio
from nonebetter.rows import most_of
from nonebetter.tableau import least_corner


def bound(rows, costs, multipliers):
    """What a spread that keeps the rows costs at the least, scale times."""
    scale = multipliers[0]
    total = sum_row(len(costs), list(zip(rows, multipliers[1])))
    return total[1] + sum([min(0, scale * cost - number) for cost, number in zip(costs, total[0])])


def lowest(scale, times):
    """The multipliers divided by all that divides each of them; not all of them are 0."""
    part = scale
    for many in times:
        part = divisor(part, many)
    return (scale // part, tuple([many // part for many in times]))


def corner(rows, costs):
    """Multipliers, and a spread that keeps the rows at just their bound; None for it where none keeps them."""
    found = least_corner(rows, costs)
    scale = found[0]
    worths = found[2]
    multipliers = lowest(scale, found[1])
    if worths is None:
        return (multipliers, None)
    return (multipliers, tuple([ratio(worth, scale) for worth in worths]))


def bound_lines(problem, best, multipliers, holds):
    """A paper whose last line tells the shut-out of the holds, where the rows, so many times, break; else None."""
    # Where best is None there is no row for the scale, and it is left out.
    rows = rows_below(problem, best)
    times = list(multipliers[1]) + [multipliers[0]]
    asked = [number for number in range(len(rows)) if times[number] > 0]
    total = sum_row(len(problem[1]), [(rows[number], times[number]) for number in asked])
    if most_of(total, holds) >= total[1]:
        return None
    sheet = Sheet(len(problem[0]))
    parts = [(sheet.line_of(number), times[number]) for number in asked]
    source = sheet.put(("sum", parts))
    sheet.put(("shut", source, list(holds)))
    return sheet.lines
