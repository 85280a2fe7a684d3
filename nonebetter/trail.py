"""The trail of a search: holds one behind another, the rows that forced them, and what rows can spare with them.

What a row can spare is the most that it may come to, less its least. Each hold takes something off it in some rows;
where it falls below 0 the row breaks, and a row forces a choice whose number is more than it can spare. Rows may be
there for the sake of their steps alone, and not be watched: they force nothing more.
"""

from nonebetter.passing import lowers


def others(pairs, numbers):
    """The pairs of rows' numbers and amounts but those of these rows."""
    return [pair for pair in pairs if pair[0] not in numbers]


class Trail:
    """Steps (choice, worth, row's number, None where it was not forced), and the rows."""

    def __init__(self, count):
        self.held = [None] * count
        self.spots = [0] * count
        self.steps = []
        # Where in the steps a choice was held that no row forced.
        self.marks = []
        self.parts = []
        self.fulls = []
        self.spares = []
        self.reaches = []
        self.watched = []
        self.lowered = [([], []) for choice in range(count)]
        self.asked = []

    def add_parts(self, parts, least):
        """Puts a row in, of tuples (choice, number), and tells its number; it is not watched yet."""
        self.parts.append(sorted(parts, key=lambda part: -abs(part[1])))
        full = sum([here for choice, here in parts if here > 0]) - least
        self.fulls.append(full)
        self.spares.append(full)
        self.reaches.append(max([abs(here) for choice, here in parts], default=0))
        self.weigh(len(self.parts) - 1)
        return len(self.parts) - 1

    def weigh(self, number):
        """Reckons anew what a row can spare with the holds."""
        off = sum([abs(here) for choice, here in self.parts[number] if self.is_lowered(choice, here)])
        self.spares[number] = self.fulls[number] - off

    def is_lowered(self, choice, here):
        """Whether the choice is held so that it takes something off a row with this number."""
        return self.held[choice] is not None and lowers(here, self.held[choice])

    def watch(self, number):
        """Lets a row force choices from now on."""
        self.weigh(number)
        self.watched.append(number)
        self.asked.append(number)
        for choice, here in self.parts[number]:
            self.lowered[choice][0 if here > 0 else 1].append((number, abs(here)))

    def leave(self, numbers):
        """Watches none of these rows any more; numbers is a dict."""
        self.watched = [number for number in self.watched if number not in numbers]
        self.asked = [number for number in self.asked if number not in numbers]
        self.lowered = [(others(pair[0], numbers), others(pair[1], numbers)) for pair in self.lowered]

    def tighten(self, number, by):
        """Raises the least of a row that is watched."""
        self.fulls[number] -= by
        self.spares[number] -= by
        self.asked.append(number)

    def hold(self, choice, worth, number):
        """Holds a choice, forced by the row of a number, or by none."""
        self.held[choice] = worth
        self.spots[choice] = len(self.steps)
        self.steps.append((choice, worth, number))
        for other, amount in self.lowered[choice][worth]:
            self.spares[other] -= amount
            if self.spares[other] < self.reaches[other]:
                self.asked.append(other)

    def branch(self, hold):
        """Holds a choice that no row forces."""
        self.marks.append(len(self.steps))
        self.hold(hold[0], hold[1], None)

    def undo(self, length):
        """Takes back all steps but the first ones, so many."""
        while len(self.steps) > length:
            step = self.steps.pop()
            self.held[step[0]] = None
            for other, amount in self.lowered[step[0]][step[1]]:
                self.spares[other] += amount
        self.marks = [mark for mark in self.marks if mark < length]
        # Rows that were put in or tightened behind these steps may force something ahead of them too.
        self.asked = [number for number in self.watched if self.spares[number] < self.reaches[number]]

    def pass_on(self):
        """Holds all that rows force; tells the number of a row that breaks, or None."""
        while len(self.asked) > 0:
            asked = self.asked
            self.asked = []
            for number in asked:
                if self.spares[number] < 0:
                    return number
                self.force(number)
        return None

    def force(self, number):
        """Holds what the row forces, which does not break."""
        spare = self.spares[number]
        for choice, here in self.parts[number]:
            if abs(here) <= spare:
                return
            if self.held[choice] is None:
                self.hold(choice, 1 if here > 0 else 0, number)

    def why(self, number, place, more):
        """Choices held ahead of a place with which a row breaks, when so much more is taken off it; none in vain."""
        lowering = []
        for choice, here in self.parts[number]:
            if self.is_lowered(choice, here) and self.spots[choice] < place:
                lowering.append((self.spots[choice], abs(here), choice))
        spare = more + sum([amount for spot, amount, choice in lowering]) - self.fulls[number] - 1
        needed = []
        # The latest are left out first: what rests on earlier holds alone is told for more of the search.
        for spot, amount, choice in sorted(lowering, reverse=True):
            if amount <= spare:
                spare -= amount
            else:
                needed.append(choice)
        return needed

    def why_forced(self, step):
        """Choices held ahead of a forced step that force it."""
        number = step[2]
        more = sum([abs(here) for choice, here in self.parts[number] if choice == step[0]])
        return self.why(number, self.spots[step[0]], more)

    def blame(self, broken):
        """From a row that breaks, a tuple (holds, steps): holds with which it does, and steps that these force to it.

        Steps ahead of the first mark are no holds: they are forced by none. Behind the last mark that counts here there
        is just one hold.
        """
        wanted = dict([(choice, True) for choice in self.why(broken, len(self.steps), 0)])
        top = max([self.spots[choice] for choice in wanted], default=-1)
        begin = max([mark for mark in self.marks if mark <= top], default=0)
        steps = []
        for place in range(top, -1, -1):
            step = self.steps[place]
            if step[0] in wanted and step[2] is not None:
                needed = self.why_forced(step)
                if self.is_no_hold(place, begin, wanted, needed):
                    steps.append(step)
                    wanted.pop(step[0])
                    wanted.update(dict([(choice, True) for choice in needed]))
        left = sorted(wanted, key=lambda choice: self.spots[choice])
        return ([(choice, self.held[choice]) for choice in left], list(reversed(steps)))

    def is_no_hold(self, place, begin, wanted, needed):
        """Whether a forced step is to be blamed on the choices that force it."""
        if len(self.marks) == 0 or place < self.marks[0]:
            return True
        if place < begin:
            # It costs nothing where these are to blame anyway.
            return all([choice in wanted for choice in needed])
        return len([choice for choice in wanted if self.spots[choice] >= begin]) > 1
