"""All points that keep a problem of few choices, and those that cost least."""

from nonebetter.rows import cost_of, most_of


def grown(begins, numbers):
    """Begins of points with what each row can spare, each with one choice more, that has these numbers in the rows."""
    # A row loses what it could have come to at this choice: at 0 a number above 0, at 1 one below.
    losses = ([max(0, number) for number in numbers], [max(0, -number) for number in numbers])
    found = []
    for begin, spares in begins:
        for worth in (0, 1):
            left = [spare - loss for spare, loss in zip(spares, losses[worth])]
            if min(left, default=0) >= 0:
                found.append((begin + (worth,), left))
    return found


def all_points(problem):
    """The points that keep the problem, sorted."""
    rows = problem[0]
    spares = [most_of(row, []) - row[1] for row in rows]
    found = [((), spares)] if min(spares, default=0) >= 0 else []
    for choice in range(len(problem[1])):
        found = grown(found, [row[0][choice] for row in rows])
    return [point for point, left in found]


def least_points(problem):
    """The least cost of the points that keep the problem, and those that have it, sorted."""
    points = all_points(problem)
    cost = min([cost_of(problem, point) for point in points], default=None)
    return (cost, [point for point in points if cost_of(problem, point) == cost])
