"""The refusals of the program, each straight under MakesError."""


class MakesError(ValueError):
    """Any refusal."""


class NoWish(MakesError):
    """A text that is no WISH, or a number of a wood that has no branches."""


class NoSet(MakesError):
    """A number that is no setting, or no rule, where one is due."""


class NoOrder(MakesError):
    """What is said to a desk and is of no form that it knows."""


class NoGroup(MakesError):
    """A row whose words or groups are wrong; at is its number."""

    def __init__(self, at):
        self.at = at


class TooMany(MakesError):
    """More than there is room for; at is the row's number."""

    def __init__(self, at):
        self.at = at


class NoForm(MakesError):
    """A row that can't be read; at is its number, what is the word for its fault."""

    def __init__(self, at, what):
        self.at = at
        self.what = what
