"""Books as problems: their choices, their rows with labels, and plans as points."""

from nonebetter.facts import Facts


def choices(book):
    """The choices of the book, as tuples (work, way, begin)."""
    return Facts(book).all_choices()


def negated(numbers):
    """The numbers with the other sign."""
    return tuple([-number for number in numbers])


def work_rows(facts, asked):
    """Each work is done just once."""
    told = []
    for work in facts.works:
        numbers = tuple([1 if choice[0] == work else 0 for choice in asked])
        told.append((("work", work, 1), (numbers, 1)))
        told.append((("work", work, -1), (negated(numbers), -1)))
    return told


def room_rows(facts, asked):
    """On each day there is no more used of a bench than its room."""
    told = []
    for bench in facts.benches:
        for day in range(facts.days):
            numbers = negated([facts.used_by(choice, bench, day) for choice in asked])
            told.append((("room", bench, day), (numbers, -facts.room_of(bench, day))))
    return told


def store_rows(facts, asked):
    """On each day, and on the end, there is no less than nothing in a store, and no more than it has room for."""
    told = []
    for store, most, first in facts.stores:
        for day in range(facts.days + 1):
            numbers = tuple([facts.gain_by(choice, store, day) for choice in asked])
            told.append((("least", store, day), (numbers, -first)))
            told.append((("most", store, day), (negated(numbers), first - most)))
    return told


def after_number(facts, choice, after, day):
    """What a choice counts by a day: 1 where it lets the second work begin by then, -1 where it is that beginning."""
    if choice[0] == after[0]:
        return 1 if facts.end_of(choice) + after[2] <= day else 0
    return -1 if choice[0] == after[1] and choice[2] <= day else 0


def after_rows(facts, asked):
    """By no day a work has begun where the one that it stands behind has not ended long enough ahead."""
    told = []
    for after in facts.afters:
        for day in range(facts.days + 1):
            numbers = tuple([after_number(facts, choice, after, day) for choice in asked])
            told.append((("after", after[0], after[1], day), (numbers, 0)))
    return told


def labelled(book):
    """The rows of the book's problem, each behind its label."""
    facts = Facts(book)
    asked = facts.all_choices()
    return work_rows(facts, asked) + room_rows(facts, asked) + store_rows(facts, asked) + after_rows(facts, asked)


def problem_of(book):
    """The problem of the book: the points that keep it are the plans that are kept, at the same cost."""
    facts = Facts(book)
    costs = tuple([facts.price_of(choice) for choice in facts.all_choices()])
    return ([row for label, row in labelled(book)], costs)


def point_of(book, plan):
    """The plan as a point."""
    return tuple([1 if plan[choice[0]] == choice[1:] else 0 for choice in choices(book)])


def plan_of(book, point):
    """The plan of a point that has just one choice of each work."""
    return dict([(choice[0], choice[1:]) for choice, worth in zip(choices(book), point) if worth == 1])
