"""The judge: it looks through a paper line by line, and knows nothing of how the paper was found.

Each teller below is handed the problem, best, the rows told so far and a line with as many things as its word asks
for. It tells the line's row, or None where the line is not right. Whatever stands in the line is looked at for its
kind first: a paper may be written by anyone. Among the rows told so far None stands for a line that is not right.
"""

from nonebetter.kinds import is_number_of, is_pair, is_whole
from nonebetter.lines import better_row, either_row, like_row, share_row, shut_row, single_row, sum_row, without
from nonebetter.rows import most_of, turn_keeps


def is_ahead(thing, told):
    """Whether a thing is the number of a line that told a row."""
    return is_number_of(thing, len(told)) and told[thing] is not None


def is_part(thing, told):
    """Whether a thing is a part of a sum: the number of a line that told a row, and how many times."""
    return is_pair(thing) and is_ahead(thing[0], told) and is_whole(thing[1]) and thing[1] >= 0


def is_hold(thing, count):
    """Whether a thing holds one of so many choices at 0 or 1."""
    return is_pair(thing) and is_number_of(thing[0], count) and is_number_of(thing[1], 2)


def are_holds(thing, count):
    """Whether a thing is a list of holds of unlike choices."""
    if not isinstance(thing, list) or not all([is_hold(hold, count) for hold in thing]):
        return False
    return len(set([hold[0] for hold in thing])) == len(thing)


def is_turn(thing, count):
    """Whether a thing is a list of so many choices, each once."""
    if not isinstance(thing, list) or not all([is_number_of(choice, count) for choice in thing]):
        return False
    return sorted(thing) == list(range(count))


def told_given(problem, best, told, line):
    """The row of the problem with a number."""
    if not is_number_of(line[1], len(problem[0])):
        return None
    return problem[0][line[1]]


def told_low(problem, best, told, line):
    """A choice is 0 or more."""
    count = len(problem[1])
    if not is_number_of(line[1], count):
        return None
    return single_row(count, line[1], 1, 0)


def told_high(problem, best, told, line):
    """A choice is 1 or less."""
    count = len(problem[1])
    if not is_number_of(line[1], count):
        return None
    return single_row(count, line[1], -1, -1)


def told_better(problem, best, told, line):
    """The cost is less than best."""
    if not is_whole(best):
        return None
    return better_row(problem, best)


def told_sum(problem, best, told, line):
    """Told rows, each so many times, added up."""
    parts = line[1]
    if not isinstance(parts, list) or len(parts) == 0:
        return None
    if not all([is_part(part, told) for part in parts]):
        return None
    return sum_row(len(problem[1]), [(told[place], many) for place, many in parts])


def told_share(problem, best, told, line):
    """A told row, divided."""
    by = line[2]
    if not is_ahead(line[1], told) or not is_whole(by) or by < 1:
        return None
    row = told[line[1]]
    if any([number % by != 0 for number in row[0]]):
        return None
    return share_row(row, by)


def told_shut(problem, best, told, line):
    """The shut-out of holds with which a told row breaks."""
    count = len(problem[1])
    holds = line[2]
    if not is_ahead(line[1], told) or not are_holds(holds, count):
        return None
    row = told[line[1]]
    if most_of(row, holds) >= row[1]:
        return None
    return shut_row(count, holds)


def told_either(problem, best, told, line):
    """What follows of one told row where a choice is 1, and of the other one where it is 0."""
    choice = line[3]
    if not is_ahead(line[1], told) or not is_ahead(line[2], told):
        return None
    if not is_number_of(choice, len(problem[1])):
        return None
    one = told[line[1]]
    other = told[line[2]]
    if without(one, choice) != without(other, choice):
        return None
    return either_row(one, other, choice)


def told_like(problem, best, told, line):
    """The point comes not behind its like by a turn that keeps the problem."""
    turn = line[1]
    if not is_turn(turn, len(problem[1])) or not turn_keeps(problem, turn):
        return None
    return like_row(turn)


LENGTHS = {
    "given": 2, "low": 2, "high": 2, "better": 1, "sum": 2, "share": 3, "shut": 3, "either": 4, "like": 2,
}

TELLERS = {
    "given": told_given, "low": told_low, "high": told_high, "better": told_better, "sum": told_sum,
    "share": told_share, "shut": told_shut, "either": told_either, "like": told_like,
}


def row_told(problem, best, told, line):
    """The row that a line tells behind the rows told so far, or None where it is not right."""
    if not isinstance(line, tuple) or len(line) == 0 or not isinstance(line[0], str):
        return None
    word = line[0]
    if word not in TELLERS or len(line) != LENGTHS[word]:
        return None
    return TELLERS[word](problem, best, told, line)


def rows_told(problem, best, paper):
    """The rows that the lines of a paper tell, up to the first line that is not right."""
    told = []
    for line in paper:
        row = row_told(problem, best, told, line)
        if row is None:
            break
        told.append(row)
    return told


def is_broken(row):
    """Whether no point keeps the row, for it has no numbers but 0 and asks for more."""
    return all([number == 0 for number in row[0]]) and row[1] >= 1


def judged(problem, best, paper):
    """None where the paper is let by, else the number of the first wrong line, or the count of lines."""
    told = rows_told(problem, best, paper)
    if len(told) == len(paper) and len(told) > 0 and is_broken(told[-1]):
        return None
    return len(told)
