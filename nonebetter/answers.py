"""Answers to books: a plan that costs least, or none, and the paper that shows it."""

from nonebetter.booked import choices, plan_of, problem_of
from nonebetter.changes import carried, search_on
from nonebetter.knots import DEEDS


def brought_over(book, earlier):
    """What of the earlier paper is right in the book's problem, and its lines' places; None for these to begin anew."""
    if earlier is None:
        return ([], None)
    ahead = choices(earlier[0])
    # Else a choice's number would mean another choice.
    if choices(book)[:len(ahead)] != ahead:
        return ([], None)
    # What rests on an earlier best is not right for None: that best need not be known here.
    return carried(problem_of(earlier[0]), None, earlier[1], problem_of(book), None)


def answer_to(book, earlier=None):
    """The answer to the book, told beside an earlier answer's book and paper, or without."""
    brought = brought_over(book, earlier)
    found = search_on(problem_of(book), list(DEEDS), brought[0])
    point = found[0]
    if point is None:
        return ("none", None, None, found[2], brought[1])
    return ("plan", plan_of(book, point), found[1], found[2], brought[1])
