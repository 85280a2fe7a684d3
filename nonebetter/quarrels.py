"""Quarrels: rows of a problem that no point keeps together, but some point all but any one of them.

From rows that no point keeps one is left out after another. Where still no point keeps the others it stays out, and so
do all on which the paper of that does not lean; else it is one of the quarrel, and the point that was found shows it.
"""

from nonebetter.booked import labelled, problem_of
from nonebetter.knots import DEEDS, search
from nonebetter.rows import turned, weighed


def only(problem, numbers):
    """The problem that has just the rows of these numbers."""
    return ([problem[0][number] for number in numbers], problem[1])


def tried(problem, numbers):
    """What a search tells of the rows of these numbers, where nothing costs anything: the first point will do."""
    return search(only((problem[0], (0,) * len(problem[1])), numbers), list(DEEDS))


def led_to(rows, turns):
    """The rows, and all those to which turns lead them, one behind another."""
    found = dict([(row, True) for row in rows])
    ahead = list(found)
    while len(ahead) > 0:
        row = ahead.pop()
        for other in [turned(row, turn) for turn in turns]:
            if other not in found:
                found[other] = True
                ahead.append(other)
    return list(found)


def leant_on(problem, numbers, paper):
    """Those of the numbers on whose rows a paper of just these rows leans; of rows alike only the first."""
    firsts = {}
    for number in numbers:
        firsts.setdefault(problem[0][number], number)
    given = [problem[0][numbers[line[1]]] for line in paper if line[0] == "given"]
    # A turn of the paper must keep the rows that are left.
    rows = led_to(given, [line[1] for line in paper if line[0] == "like"])
    return sorted([firsts[row] for row in rows])


def exchanged(point, up, down):
    """The point with 1 at one choice and 0 at another."""
    worths = list(point) + [0]
    worths[up] = 1
    worths[down] = 0
    return tuple(worths[:-1])


def points_near(problem, numbers, point):
    """Points like this one but for one choice, or for two of unlike worths, that keep all of these rows but one.

    Told are tuples (number of this row, point).
    """
    # A choice behind the others, of which no row knows, stands for none.
    ups = [choice for choice, worth in enumerate(point) if worth == 0] + [len(point)]
    downs = [choice for choice, worth in enumerate(point) if worth == 1] + [len(point)]
    rows = [(number,) + problem[0][number] for number in numbers]
    spares = [(number, here + (0,), weighed(here, point) - least) for number, here, least in rows]
    found = []
    for up in ups:
        for down in downs:
            against = [number for number, here, spare in spares if spare + here[up] - here[down] < 0]
            if len(against) == 1:
                found.append((against[0], exchanged(point, up, down)))
    return found


def put_points(problem, numbers, points, first):
    """Puts in a point behind the number of the only row that it does not keep, and so those near it, and near these."""
    ahead = [first]
    # A search takes longer than looking near a point that is known.
    while len(ahead) > 0 and len(points) < len(numbers):
        pair = ahead.pop()
        if pair[0] not in points:
            points[pair[0]] = pair[1]
            ahead += points_near(problem, numbers, pair[1])


def quarrel(problem):
    """Numbers of rows that no point keeps, a paper of that, and for each a point that keeps all others; or None."""
    numbers = list(range(len(problem[0])))
    found = tried(problem, numbers)
    if found[0] is not None:
        return None
    numbers = leant_on(problem, numbers, found[2])
    points = {}
    while len(points) < len(numbers):
        asked = min([number for number in numbers if number not in points])
        others = [number for number in numbers if number != asked]
        found = tried(problem, others)
        if found[0] is None:
            numbers = leant_on(problem, others, found[2])
        else:
            put_points(problem, numbers, points, (asked, found[0]))
    # The costs count again: a turn of the paper must keep them.
    paper = search(only(problem, numbers), list(DEEDS))[2]
    return (numbers, paper, [points[number] for number in numbers])


def quarrel_of(book):
    """The quarrel of the book's problem, with the labels of its rows; or None."""
    found = quarrel(problem_of(book))
    if found is None:
        return None
    labels = [label for label, row in labelled(book)]
    return ([labels[number] for number in found[0]], found[1], found[2])
