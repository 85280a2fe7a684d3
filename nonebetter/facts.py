"""What the rows of a book say: of its works and their ways, of benches and stores, and of days.

A choice is a tuple (work, way, begin): the work is done in this way, from this day on.
"""

from nonebetter.books import said_by


class Facts:
    """What a book says, in the book's order."""

    def __init__(self, book):
        self.days = book[0][1]
        self.works = [row[1] for row in book if row[0] == "work"]
        self.benches = [row[1] for row in book if row[0] == "bench"]
        self.shuts = [tuple(row[1:]) for row in book if row[0] == "shut"]
        self.stores = [tuple(row[1:]) for row in book if row[0] == "store"]
        self.afters = [tuple(row[1:]) for row in book if row[0] == "after"]
        # The numbers of rows by their words and names, which no two rows share but "shut"; these are kept above.
        self.said = dict([(said_by(row), tuple(row[len(said_by(row)):])) for row in book])

    def is_way(self, work, way):
        """Whether a text is a way of the work."""
        return ("way", work, way) in self.said

    def last_begin(self, work, way):
        """The last day on which the work may begin, done in this way."""
        return self.days - self.said[("way", work, way)][0]

    def all_choices(self):
        """The choices of the book: works, their ways, and days rising."""
        found = []
        for work in self.works:
            for way in [names[2] for names in self.said if names[:2] == ("way", work)]:
                found += [(work, way, begin) for begin in range(self.last_begin(work, way) + 1)]
        return found

    def end_of(self, choice):
        """The day on which the choice's work ends."""
        return choice[2] + self.said[("way",) + choice[:2]][0]

    def price_of(self, choice):
        """What the choice costs: its way, and each day by which it is late."""
        late = self.said.get(("late", choice[0]), (0, 0))
        return self.said[("way",) + choice[:2]][1] + max(0, self.end_of(choice) - late[0]) * late[1]

    def many(self, word, choice, name):
        """How much the choice's way uses of a bench, takes out of a store, or gives into it."""
        return self.said.get((word,) + choice[:2] + (name,), (0,))[0]

    def used_by(self, choice, bench, day):
        """How much of a bench the choice uses on a day."""
        if choice[2] <= day < self.end_of(choice):
            return self.many("uses", choice, bench)
        return 0

    def gain_by(self, choice, store, day):
        """How much the choice has given into a store by a day, less what it has taken out of it by then."""
        gain = 0
        if choice[2] <= day:
            gain -= self.many("takes", choice, store)
        if self.end_of(choice) <= day:
            gain += self.many("gives", choice, store)
        return gain

    def room_of(self, bench, day):
        """How much room a bench has on a day."""
        if any([name == bench and begin <= day < end for name, begin, end in self.shuts]):
            return 0
        return self.said[("bench", bench)][0]
