"""Which choice a search holds next, and at which worth."""

# Scores grow with each row that breaks; beyond this they are all made less, for the sake of short numbers.
HIGH = 1000000000000000000000000000000
LESS = 100000000000000000000


class Branching:
    """A score for each choice: how much it counted in rows that broke, the later ones more; and its last worth."""

    def __init__(self, costs):
        self.scores = [0] * len(costs)
        # What a choice gains that counts in a row that breaks.
        self.gain = 1000
        self.leanings = [1 if cost < 0 else 0 for cost in costs]

    def begin_with(self, trail):
        """Gives the first scores: by how much choices count in what the rows can spare."""
        for number in trail.watched:
            for choice, here in trail.parts[number]:
                self.scores[choice] += 1000 * abs(here) // (abs(trail.fulls[number]) + 1)

    def remember(self, steps):
        """Keeps the worths of steps that are to be taken back."""
        for choice, worth, number in steps:
            self.leanings[choice] = worth

    def count_in(self, choices):
        """Raises the scores of choices that count in a row that breaks."""
        for choice in choices:
            self.scores[choice] += self.gain
        self.gain = self.gain * 21 // 20
        if self.gain > HIGH:
            self.gain //= LESS
            self.scores = [score // LESS for score in self.scores]

    def hold_of(self, free):
        """The next hold: of the free choices the one with the highest score, as it was held last."""
        choice = max(free, key=lambda other: self.scores[other])
        return (choice, self.leanings[choice])

    def hold_by(self, free, scale, worths):
        """The next hold by a spread's worths, scale times: a choice torn between 0 and 1, at the nearer one."""
        torn = [choice for choice in free if 0 < worths[choice] < scale]
        choice = max(torn, key=lambda other: min(worths[other], scale - worths[other]) * (self.scores[other] + 1))
        return (choice, 1 if 2 * worths[choice] >= scale else 0)
