"""Fractions: tuples (above, below) of whole numbers, below from 1 on, without a common part."""

from nonebetter.errors import NoNumber


def divisor(one, other):
    """The greatest whole number that divides both; 0 of 0 and 0."""
    last = abs(one)
    rest = abs(other)
    while rest != 0:
        left = last % rest
        last = rest
        rest = left
    return last


def ratio(top, bottom):
    """The fraction of top divided by bottom."""
    if bottom == 0:
        raise NoNumber("a fraction has no bottom of 0")
    part = divisor(top, bottom)
    # Dividing both by a part of the bottom's sign puts the sign on the top.
    if bottom < 0:
        part = -part
    return (top // part, bottom // part)


def plus(one, other):
    """One and other added up."""
    return ratio(one[0] * other[1] + other[0] * one[1], one[1] * other[1])


def minus(one, other):
    """One less other."""
    return ratio(one[0] * other[1] - other[0] * one[1], one[1] * other[1])


def times(one, other):
    """One times other."""
    return ratio(one[0] * other[0], one[1] * other[1])


def over(one, other):
    """One divided by other."""
    # A bottom of 0 comes of an other of nought alone, and ratio refuses it.
    return ratio(one[0] * other[1], one[1] * other[0])


def below(one, other):
    """Whether one is less than other."""
    return one[0] * other[1] < other[0] * one[1]
