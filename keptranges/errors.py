"""What the program refuses."""


class RangeError(ValueError):
    """Any refusal."""


class NoClock(RangeError):
    """There was no such clock."""


class NoText(RangeError):
    """The text is no spread's."""
