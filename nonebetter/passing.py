"""Passing on: what rows force from holds, step by step, and the papers of it."""

from nonebetter.lines import Sheet, rows_below
from nonebetter.rows import most_of


def lowers(number, worth):
    """Whether holding a choice at the worth takes something off the most that a row with this number may come to."""
    return number > 0 and worth == 0 or number < 0 and worth == 1


def first_broken(spares):
    """The number of the first row whose most is below its least, or None."""
    for number, spare in enumerate(spares):
        if spare < 0:
            return number
    return None


def first_forced(rows, spares, reaches, held):
    """The step (choice, worth, row's number) of the first row that forces a choice, or None; no row breaks."""
    for number, row in enumerate(rows):
        spare = spares[number]
        # Most rows can spare each of their numbers: these are passed over without a look at their choices.
        if reaches[number] > spare:
            for choice, here in enumerate(row[0]):
                if abs(here) > spare and choice not in held:
                    return (choice, 1 if here > 0 else 0, number)
    return None


def passed(rows, holds):
    """What is forced from the holds: a tuple of the steps (choice, worth, row's number) and the row that breaks."""
    held = dict(holds)
    spares = [most_of(row, holds) - row[1] for row in rows]
    reaches = [max([abs(number) for number in row[0]], default=0) for row in rows]
    forced = []
    while True:
        broken = first_broken(spares)
        step = None
        if broken is None:
            step = first_forced(rows, spares, reaches, held)
        if step is None:
            return (forced, broken)
        forced.append(step)
        choice = step[0]
        worth = step[1]
        held[choice] = worth
        for number, row in enumerate(rows):
            if lowers(row[0][choice], worth):
                spares[number] -= abs(row[0][choice])


def steps_needed(rows, forced, broken):
    """Those of the forced steps, in their order, on which the row's breaking rests."""
    steps = []
    asked = [rows[broken]]
    for choice, worth, number in reversed(forced):
        if any([lowers(row[0][choice], worth) for row in asked]):
            steps.append((choice, worth, number))
            asked.append(rows[number])
    return list(reversed(steps))


def put_steps(sheet, holds, steps, broken):
    """Writes lines whose last one tells the shut-out of holds that force the steps, with which a row is broken."""
    held = list(holds) + [(choice, worth) for choice, worth, number in steps]
    source = sheet.line_of(broken)
    last = sheet.put(("shut", source, list(held)))
    # Step by step backwards: with what was held ahead of a step neither worth of its choice is left.
    for choice, worth, number in reversed(steps):
        held.pop()
        source = sheet.line_of(number)
        against = sheet.put(("shut", source, held + [(choice, 1 - worth)]))
        if worth == 1:
            last = sheet.put(("either", last, against, choice))
        else:
            last = sheet.put(("either", against, last, choice))
    return last


def passed_lines(problem, best, holds):
    """A paper whose last line tells the shut-out of the holds, where passing on from them ends broken; else None."""
    rows = rows_below(problem, best)
    outcome = passed(rows, holds)
    if outcome[1] is None:
        return None
    forced = outcome[0]
    broken = outcome[1]
    sheet = Sheet(len(problem[0]))
    put_steps(sheet, holds, steps_needed(rows, forced, broken), broken)
    return sheet.lines
