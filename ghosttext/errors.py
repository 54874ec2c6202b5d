"""The errors of the package."""


class GhosttextError(ValueError):
    """The base class of all other errors of the package."""


class InvalidWordError(GhosttextError):
    """A value is not a word."""


class InvalidBookError(GhosttextError):
    """A value is not a book."""


class InvalidHistoryError(GhosttextError):
    """A value is not a history."""


class InvalidTextError(GhosttextError):
    """A value is not a text that can be typed."""


class InvalidStateError(GhosttextError):
    """A value is not a state of the words."""


class InvalidKeysError(GhosttextError):
    """A value is not a string of keys or a list of numbers of keys."""


class InvalidNumberError(GhosttextError):
    """A value is not an integer of the required range."""


class InvalidFormatError(GhosttextError):
    """A string does not have the required form."""


class UnknownWordError(GhosttextError):
    """A word is not one of the known words."""


class DifferentWordsError(GhosttextError):
    """Two books do not have the same words."""


class TooLongError(GhosttextError):
    """A letter is typed behind a text that has the greatest length."""


class NothingTypedError(GhosttextError):
    """A key needs a typed text, but there is none."""


class FullError(GhosttextError):
    """A new word is used, but the book has the greatest number of words."""


class EmptyHistoryError(GhosttextError):
    """There is no call to undo."""


class PrefixError(GhosttextError):
    """Two words clash; `pair` has them, the beginning of the other one first."""

    def __init__(self, pair):
        super().__init__(f"these words clash: {pair}")
        self.pair = pair


class ImpossibleKeysError(GhosttextError):
    """No state needs the numbers of keys; `beginning` tells where this is seen."""

    def __init__(self, beginning):
        super().__init__(f"no state needs these numbers of keys: {beginning!r}")
        self.beginning = beginning
