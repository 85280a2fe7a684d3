"""The refusals of the program."""


class PlanError(ValueError):
    """Any refusal."""


class NoNumber(PlanError):
    """There is no such number."""


class NoStep(PlanError):
    """There is no such step."""


class NoPicture(PlanError):
    """A text is no picture of a plan that is kept; row is the number of the row that is wrong."""

    def __init__(self, row):
        self.row = row


class NoBook(PlanError):
    """A list or a text is no book; row is the number of the row that is wrong."""

    def __init__(self, row):
        self.row = row
