"""Books of works: what a list of rows must be to be one, and how books are written as text and read."""

from nonebetter.errors import NoBook
from nonebetter.kinds import is_whole

# How many names stand behind a row's word; numbers stand behind these.
NAMES = {
    "days": 0, "bench": 1, "shut": 1, "store": 1, "work": 1, "way": 2, "uses": 3, "takes": 3, "gives": 3, "after": 2,
    "late": 1,
}

# The least and the most of each number; None stands for the count of days.
BOUNDS = {
    "days": ((1, 12),),
    "bench": ((0, 99),),
    "shut": ((0, None), (0, None)),
    "store": ((0, 999), (0, 999)),
    "work": (),
    "way": ((1, None), (0, 999999)),
    "uses": ((1, 99),),
    "takes": ((1, 99),),
    "gives": ((1, 99),),
    "after": ((0, None),),
    "late": ((0, None), (1, 999999)),
}

# What must be said in rows ahead: words, and where in the row the names stand that were said with them.
NEEDS = {
    "days": (),
    "bench": (("days",),),
    "shut": (("bench", 1),),
    "store": (("days",),),
    "work": (("days",),),
    "way": (("work", 1),),
    "uses": (("way", 1, 2), ("bench", 3)),
    "takes": (("way", 1, 2), ("store", 3)),
    "gives": (("way", 1, 2), ("store", 3)),
    "after": (("work", 1), ("work", 2)),
    "late": (("work", 1),),
}

# No number of a book has more figures; Python itself does not read very long ones.
FIGURES = 6


def is_name(thing):
    """Whether a thing is one to twelve of the letters a to z."""
    return isinstance(thing, str) and 1 <= len(thing) <= 12 and all(["a" <= sign <= "z" for sign in thing])


def is_formed(row):
    """Whether a row is a list of a known word, its names and its numbers, whatever these are."""
    if not isinstance(row, list) or len(row) == 0 or not isinstance(row[0], str) or row[0] not in NAMES:
        return False
    behind = 1 + NAMES[row[0]]
    if len(row) != behind + len(BOUNDS[row[0]]):
        return False
    return all([is_name(name) for name in row[1:behind]]) and all([is_whole(number) for number in row[behind:]])


def is_within(row, days):
    """Whether a formed row keeps to the bounds of its numbers, and two of a kind to their order."""
    word = row[0]
    for number, bounds in zip(row[1 + NAMES[word]:], BOUNDS[word]):
        most = days if bounds[1] is None else bounds[1]
        if not bounds[0] <= number <= most:
            return False
    if word == "shut":
        return row[2] < row[3]
    if word == "store":
        return row[3] <= row[2]
    return word != "after" or row[1] != row[2]


def said_by(row):
    """What a formed row says, and of what; it is not to be said twice."""
    return tuple(row[:1 + NAMES[row[0]]])


def needed_by(row):
    """What must be said ahead of a formed row."""
    return [(need[0],) + tuple([row[place] for place in need[1:]]) for need in NEEDS[row[0]]]


def is_row_of_book(row, days, said):
    """Whether a row may stand behind rows that said all this, of a book with so many days."""
    if not is_formed(row) or not is_within(row, days):
        return False
    # A bench may be shut as often as one likes.
    if row[0] != "shut" and said_by(row) in said:
        return False
    return all([need in said for need in needed_by(row)])


def looked(rows):
    """Refuses a list that is no book with NoBook."""
    if len(rows) == 0:
        raise NoBook(0)
    said = {}
    days = 0
    for number, row in enumerate(rows):
        if not is_row_of_book(row, days, said):
            raise NoBook(number)
        said[said_by(row)] = True
        days = rows[0][1]


def written(book):
    """The book as text."""
    return "".join([" ".join([str(thing) for thing in row]) + "\n" for row in book])


def is_figures(word):
    """Whether a word is a number as books have it: in figures, without a nought ahead."""
    if not 1 <= len(word) <= FIGURES or not all(["0" <= sign <= "9" for sign in word]):
        return False
    return word == "0" or word[0] != "0"


def row_read(line):
    """The row of which a line may be written; words that are no numbers are left as they are."""
    return [int(word) if is_figures(word) else word for word in line.split(" ")]


def read(text):
    """The book that a text is written from; refuses others with NoBook."""
    lines = text.split("\n")
    # Behind the last line end nothing stands.
    rest = lines.pop()
    book = [row_read(line) for line in lines]
    looked(book)
    if rest != "":
        raise NoBook(len(book))
    return book
