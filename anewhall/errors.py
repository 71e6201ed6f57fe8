"""What the program refuses with."""


class HallError(ValueError):
    """Any refusal."""


class NoName(HallError):
    """A text that is no name."""


class NoNumber(HallError):
    """A whole number that is beyond the numbers of a hall."""


class NoRecipe(HallError):
    """A text that is no recipe."""


class Full(HallError):
    """One name or one point too many."""


class NoPoint(HallError):
    """A whole number that is no point."""


class NoRow(HallError):
    """A row of another form."""
