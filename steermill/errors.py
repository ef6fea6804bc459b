"""What the program refuses, one class for each refusal."""


class MillError(ValueError):
    """Any refusal."""


class NoBack(MillError):
    """A table with as many rows as columns that has no back."""


class NoText(MillError):
    """What should be the text of something, and tells none."""


class NoName(MillError):
    """What should name a machine, and names none."""


class NoRow(MillError):
    """What should be a row told to a desk, and is none."""
