"""Curves: what the plans of a book cost that end by a day, for each of its days."""

from nonebetter.booked import problem_of
from nonebetter.facts import Facts
from nonebetter.knots import DEEDS, search


def problem_by(book, day):
    """The book's problem with one row more: nothing ends later than on the day."""
    facts = Facts(book)
    late = tuple([-1 if facts.end_of(choice) > day else 0 for choice in facts.all_choices()])
    problem = problem_of(book)
    return (problem[0] + [(late, 0)], problem[1])


def curve(book):
    """For each day from 0 to the end the least cost of plans that end by it, or None, and the paper of that."""
    return [search(problem_by(book, day), list(DEEDS))[1:] for day in range(Facts(book).days + 1)]
