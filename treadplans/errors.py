"""The errors of the package, each with the value that it tells of."""


class WeaveError(ValueError):
    """What all errors of the package have in common: a value."""

    def __init__(self, value):
        self.value = value


class BadPlan(WeaveError):
    """A value that is no text of a plan."""


class BadPlace(WeaveError):
    """A value that is no place of a plan."""


class BadNumber(WeaveError):
    """A value that is no integer from the range that is asked for."""


class BadDraft(WeaveError):
    """The number of the line at which a text is no draft, or 0."""


class BadEnd(WeaveError):
    """A value that is no kind of ends."""


class BadPick(WeaveError):
    """A value that is no kind of picks."""


class BadName(WeaveError):
    """A value that is no kind, or none that can be meant."""


class BadRow(WeaveError):
    """A value that is no row of a plan."""


class BadThread(WeaveError):
    """A value that is no thread of a cloth."""


class BadBy(WeaveError):
    """A value that names no way of looking alike."""


class BadPairs(WeaveError):
    """A value that is no ascending tuple of pairs of kinds."""


class TooMany(WeaveError):
    """How many may be kept in mind, where there are more."""


class BadSort(WeaveError):
    """A value that names no sort of threads."""


class BadSide(WeaveError):
    """A value that names no side of a cloth."""


class BadPicture(WeaveError):
    """A value that is no picture."""


class NotNow(WeaveError):
    """A kind of picks that cannot be woven now."""


class BadPicks(WeaveError):
    """A value that is no tuple of picks."""


class NotWhole(WeaveError):
    """The fewest picks that are still missing."""


class NothingToUndo(WeaveError):
    """None: no deed is left that can be undone."""


class NothingToRedo(WeaveError):
    """None: no deed is left that can be done again."""


class BadText(WeaveError):
    """The number of the line at which a text cannot be read, or 0."""


class BadJournal(WeaveError):
    """The number of the line at which a text is no journal, or 0."""


class BadLine(WeaveError):
    """A value that is no line for a desk."""
