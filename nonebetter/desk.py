"""A desk with a book on it: the book is changed one row at a time, and answered."""

from nonebetter.answers import answer_to
from nonebetter.books import looked
from nonebetter.errors import NoBook, NoStep
from nonebetter.kinds import is_number_of
from nonebetter.lines import copied


def rows_copied(book):
    """The book with lists of its own."""
    return [list(row) for row in book]


class Desk:
    """The books that were laid on a desk and not taken back, and the book and paper of the answer told last."""

    def __init__(self, book):
        self.books = []
        self.earlier = None
        self.lay(book)

    def lay(self, rows):
        """Lays a book on the others; refuses a list that is none with NoBook."""
        looked(rows)
        self.books.append(rows_copied(rows))

    def book(self):
        """The book on the desk."""
        return rows_copied(self.books[-1])

    def put_row(self, place, row):
        """Puts a row in at a place; refuses with NoBook."""
        rows = self.books[-1]
        if not is_number_of(place, len(rows) + 1):
            raise NoBook(place)
        self.lay(rows[:place] + [row] + rows[place:])

    def take_row(self, place):
        """Takes out the row at a place; refuses with NoBook."""
        rows = self.books[-1]
        if not is_number_of(place, len(rows)):
            raise NoBook(place)
        self.lay(rows[:place] + rows[place + 1:])

    def back(self):
        """Takes back the last deed; refuses with NoStep where there is none."""
        if len(self.books) == 1:
            raise NoStep("no deed to take back")
        self.books.pop()

    def answer(self):
        """The answer to the book, carried over from the answer told last."""
        book = self.books[-1]
        told = answer_to(book, self.earlier)
        # The paper told is the asker's own, who may change it.
        self.earlier = (book, copied(told[3]))
        return told
