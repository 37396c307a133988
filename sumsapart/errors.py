"""The refusals of the program."""


class MarkError(ValueError):
    """What was handed in is refused."""


class BadPrime(MarkError):
    """What was handed in is no prime from 3 to 1000000."""


class BadNumber(MarkError):
    """What was handed in is no whole number, or one that is out of place."""


class BadMarks(MarkError):
    """What was handed in is no list of marks."""


class NoMark(MarkError):
    """The number is no mark of the prime."""


class NotApart(MarkError):
    """The marks are not apart."""
