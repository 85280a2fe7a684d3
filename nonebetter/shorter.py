"""Shorter papers: without lines on which the last one does not rest, and without rows told twice."""

from nonebetter.judge import rows_told
from nonebetter.lines import named_by, renumbered


def rests_on(paper):
    """The numbers of the lines on which the last one rests, and its own, rising."""
    if len(paper) == 0:
        return []
    wanted = {len(paper) - 1: True}
    # From behind: a line is named only by lines behind it, so that its place is reached when these are known.
    for number in range(len(paper) - 1, -1, -1):
        if number in wanted:
            for other in named_by(paper[number]):
                wanted[other] = True
    return sorted(wanted)


def trimmed(paper, begin):
    """The first lines, so many as begin tells, and behind them those on which the last one rests, numbered anew."""
    places = {}
    told = []
    for number in list(range(begin)) + [number for number in rests_on(paper) if number >= begin]:
        places[number] = len(told)
        told.append(renumbered(paper[number], places))
    return told


def merged(paper, rows):
    """The lines on which the last row rests, where each row is named by the first line that tells it."""
    firsts = {}
    places = []
    for number, row in enumerate(rows):
        firsts.setdefault(row, number)
        places.append(firsts[row])
    lines = [renumbered(line, places) for line in paper]
    return trimmed(lines[:places[-1] + 1], 0)


def shorter(problem, best, paper):
    """A paper with the same last row that has no line in vain, and no row twice."""
    if len(paper) == 0:
        return []
    rows = rows_told(problem, best, paper)
    needed = merged(trimmed(paper, 0), [rows[number] for number in rests_on(paper)])
    # A line on which the last one does not rest may spare others that tell its row, but may also need more than these.
    return min([needed, merged(paper, rows)], key=len)
