"""The refusals of the package, one class for each kind."""


class MeanError(ValueError):
    """Any refusal of the package."""


class BadShare(MeanError):
    """No share, or a share that can't be made."""


class BadCount(MeanError):
    """No number within the told limits."""


class BadKind(MeanError):
    """No kind of groupings."""


class BadGrouping(MeanError):
    """No grouping, or one that doesn't fit."""


class BadTable(MeanError):
    """No table."""


class BadWord(MeanError):
    """No word of the table or of the things."""


class BadWays(MeanError):
    """No ways to make new letters."""


class BadMeans(MeanError):
    """No list of shares of a told length."""


class BadLetters(MeanError):
    """No two unlike letters of the table."""


class TooMany(MeanError):
    """More rows or letters than a table may have."""


class TooFew(MeanError):
    """Fewer means than the word asks for."""
