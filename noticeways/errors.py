"""The errors of the package, one class for each kind of failure."""


class NoticeError(ValueError):
    """The base class of all errors of the package."""


class InvalidNotice(NoticeError):
    """A value should be a notice, and is none."""


class InvalidHouse(NoticeError):
    """A value should be a house, and is none."""


class InvalidFormula(NoticeError):
    """A value should be a formula, and is none."""


class InvalidTruth(NoticeError):
    """A value should be a truth, and is none."""


class InvalidCases(NoticeError):
    """A value should be what was decided, and is not."""


class InvalidPlan(NoticeError):
    """A value should be a plan, and is none."""


class InvalidBook(NoticeError):
    """A value should be a book, and is none."""


class InvalidNumber(NoticeError):
    """A value should be a number of people, and is none."""


class InvalidIndex(NoticeError):
    """A value should be an index, and is none."""


class NoReading(NoticeError):
    """No reading would be left."""


class NothingToUndo(NoticeError):
    """There is nothing that can be taken back."""


class InvalidText(NoticeError):
    """A value should be the text of a notice, and is none."""

    def __init__(self, word):
        super().__init__(f"no text of a notice, as word {word} shows")
        self.word = word


class TooMany(NoticeError):
    """There is more of something than a limit allows."""

    def __init__(self, limit):
        super().__init__(f"more than {limit}")
        self.limit = limit
