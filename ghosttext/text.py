"""Books, histories and states as strings."""

from ghosttext.errors import InvalidFormatError
from ghosttext.states import check_state, is_state
from ghosttext.words import check_book, check_history, is_book, is_history


def format_words(history):
    """Return the string of a book or a history."""
    check_history(history)
    return " ".join(history)


def parse_words(text):
    """Return the history that has this string."""
    words = _split(text)
    if not is_history(words):
        raise InvalidFormatError("the text is not the string of a history")
    return words


def format_state(words, state):
    """Return the string of a state of the words."""
    check_book(words)
    check_state(words, state)
    return " ".join([f"{text}:{letter}" for text, letter in state])


def parse_state(words, text):
    """Return the state of the words that has this string."""
    check_book(words)
    state = [_parse_choice(item) for item in _split(text)]
    if not is_state(words, state):
        raise InvalidFormatError("the text is not the string of a state of the words")
    return state


def parse_book(text, most):
    """Return the book of at most so many words that has this string."""
    words = _split(text)
    if not is_book(words) or len(words) > most:
        raise InvalidFormatError("the text is not the string of a book that has room")
    return words


def _split(text):
    if not isinstance(text, str):
        raise InvalidFormatError("the value is not a string")
    # The empty string has no items, and no empty one either.
    return text.split(" ") if len(text) > 0 else []


def _parse_choice(item):
    # Without a colon the branch is empty, which no state has.
    text, _, letter = item.partition(":")
    return text, letter
