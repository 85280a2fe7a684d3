"""What kind of thing a thing is, whoever handed it in."""


def is_whole(thing):
    """Whether a thing is a whole number: an int that is no truth."""
    return isinstance(thing, int) and not isinstance(thing, bool)


def is_number_of(thing, count):
    """Whether a thing is the number of one of so many, counted from 0."""
    return is_whole(thing) and 0 <= thing < count


def is_pair(thing):
    """Whether a thing is a tuple of two things."""
    return isinstance(thing, tuple) and len(thing) == 2
