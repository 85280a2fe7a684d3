"""Problems, rows and points; holds; turns."""


def weighed(numbers, point):
    """The sum of the numbers times the point's."""
    return sum([number * worth for number, worth in zip(numbers, point)])


def parts_of(row):
    """The tuples (choice, number) of the row's numbers that are not 0."""
    return [(choice, number) for choice, number in enumerate(row[0]) if number != 0]


def kept(row, point):
    """Whether the point keeps the row."""
    return weighed(row[0], point) >= row[1]


def keeps(problem, point):
    """Whether the point keeps all rows of the problem."""
    return all([kept(row, point) for row in problem[0]])


def cost_of(problem, point):
    """What the point costs."""
    return weighed(problem[1], point)


def most_of(row, holds):
    """The most that the row may come to with the holds."""
    held = dict(holds)
    most = 0
    for choice, number in enumerate(row[0]):
        worth = held.get(choice)
        if worth == 1 or (worth is None and number > 0):
            most += number
    return most


def turned(row, turn):
    """The row that has the number of choice i at the place turn[i]."""
    numbers = [0] * len(turn)
    for number, place in zip(row[0], turn):
        numbers[place] = number
    return (tuple(numbers), row[1])


def turn_keeps(problem, turn):
    """Whether the problem's rows, turned, are its rows again, and choices cost what their places cost."""
    rows = problem[0]
    costs = problem[1]
    if any([cost != costs[place] for cost, place in zip(costs, turn)]):
        return False
    # Sorted, for the order does not count, but how often a row stands does.
    return sorted([turned(row, turn) for row in rows]) == sorted(rows)
