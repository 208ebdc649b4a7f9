"""The errors of the package, one class for each kind of failure."""


class PushError(ValueError):
    """What is derived from it tells that a value is not of the form that is asked for."""


class InvalidLayout(PushError):
    """This is no layout."""


class InvalidTape(PushError):
    """This is no tape, or no event of one."""


class InvalidPipeline(PushError):
    """This is no pipeline, no monitor, or no tree."""


class InvalidState(PushError):
    """This is no state of the pipeline."""


class InvalidBounds(PushError):
    """These are no bounds."""


class InvalidStand(PushError):
    """This is no joint stand of the pair."""


class InvalidPaper(PushError):
    """This is no paper."""


class InvalidChain(PushError):
    """These are no steps of a chain."""


class InvalidOperation(PushError):
    """These values do not go together."""


class ParseError(PushError):
    """A text cannot be read; `index` tells from where on."""

    def __init__(self, index):
        PushError.__init__(self, "the text cannot be read")
        self.index = index


class UnknownName(KeyError):
    """Nothing has this name."""

    def __init__(self, name):
        KeyError.__init__(self, "nothing has this name")
        self.name = name


class UnknownIndex(IndexError):
    """There is nothing at this index or path."""

    def __init__(self, index):
        IndexError.__init__(self, "there is nothing at this index")
        self.index = index


class NothingToUndo(LookupError):
    """There are fewer steps than these."""

    def __init__(self, many):
        LookupError.__init__(self, "there are fewer steps")
        self.many = many


class TooMany(OverflowError):
    """There are more than this limit lets."""

    def __init__(self, limit):
        OverflowError.__init__(self, "there are more than the limit lets")
        self.limit = limit


class InvalidNumber(RuntimeError):
    """This is no number, or none that may stand here."""

    def __init__(self, value):
        RuntimeError.__init__(self, "this number may not stand here")
        self.value = value
