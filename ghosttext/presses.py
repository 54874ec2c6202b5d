"""What single keys do to a typed text, and which of them raise an error."""

from ghosttext.errors import InvalidKeysError, NothingTypedError, TooLongError
from ghosttext.words import LETTERS, MOST_LETTERS, check_no_clash

ACCEPT = "+"
BACK = "-"


def is_one_key(value):
    """Return whether any value is a key."""
    return isinstance(value, str) and len(value) == 1 and (value in LETTERS or value in (ACCEPT, BACK))


def check_keys(value):
    """Raise InvalidKeysError if the value is not a string of keys."""
    if not isinstance(value, str) or not all([is_one_key(key) for key in value]):
        raise InvalidKeysError("the value is not a string of keys")


def text_after(text, key):
    """Return the text after a letter or the key that removes one."""
    if key == BACK:
        if text == "":
            raise NothingTypedError("there is no letter to remove")
        return text[:-1]
    if len(text) == MOST_LETTERS:
        raise TooLongError("the text has the greatest length")
    return text + key


def check_new_word(book, text):
    """Raise NothingTypedError or PrefixError if a text without a suggestion can't become a word."""
    if text == "":
        raise NothingTypedError("there is neither a suggestion nor a text")
    check_no_clash([*book, text])


def count_uses(history):
    """Return the tuples of a word and the number of its uses, in ascending order."""
    times = {}
    for word in history:
        times[word] = times.get(word, 0) + 1
    return [(word, times[word]) for word in sorted(times)]
