"""Words, books and histories, and what uses of words do to a book."""

from ghosttext.errors import InvalidBookError, InvalidHistoryError, InvalidWordError, PrefixError, UnknownWordError

LETTERS = "abcdefghijklmnopqrstuvwxyz"
MOST_LETTERS = 12


def is_text(value):
    """Return whether any value is a string of 0 to 12 lowercase letters."""
    if not isinstance(value, str) or len(value) > MOST_LETTERS:
        return False
    return all([letter in LETTERS for letter in value])


def is_word(value):
    """Return whether any value is a word."""
    return is_text(value) and len(value) > 0


def is_book(value):
    """Return whether any value is a book."""
    return is_history(value) and len(set(value)) == len(value)


def is_history(value):
    """Return whether any value is a history."""
    return _is_word_list(value) and _least_clash(value) is None


def clashing_pair(value):
    """Return the least pair of clashing words of a list, or None."""
    if not _is_word_list(value):
        raise InvalidWordError("the value is not a list of words")
    return _least_clash(value)


def after_uses(book, *used):
    """Return the book after the words were used one after another."""
    check_book(book)
    for word in used:
        check_word(word)
    check_no_clash([*book, *used])
    return play_uses(book, list(used))


def book_after(history):
    """Return the book after a history that begins with the empty book."""
    check_history(history)
    return play_uses([], history)


def play_uses(book, uses):
    """Return the book after uses of words that are known to fit into it."""
    played = list(book)
    for word in uses:
        if word in played:
            played.remove(word)
        played.append(word)
    return played


def check_word(value):
    """Raise InvalidWordError if the value is not a word."""
    if not is_word(value):
        raise InvalidWordError("a word is a string of 1 to 12 lowercase letters")


def check_known_word(words, value):
    """Raise InvalidWordError or UnknownWordError if the value is not one of the words."""
    check_word(value)
    if value not in words:
        raise UnknownWordError("the word is not one of the known words")


def check_book(value):
    """Raise InvalidBookError if the value is not a book."""
    if not is_book(value):
        raise InvalidBookError("a book is a list of different words that do not clash")


def check_history(value):
    """Raise InvalidHistoryError if the value is not a history."""
    if not is_history(value):
        raise InvalidHistoryError("a history is a list of words that do not clash")


def check_no_clash(words):
    """Raise PrefixError with the least clashing pair of a list of words."""
    pair = _least_clash(words)
    if pair is not None:
        raise PrefixError(pair)


def _is_word_list(value):
    # The document wants exactly a list, so a subclass does not do.
    return type(value) == list and all([is_word(item) for item in value])


def _least_clash(words):
    # In ascending order the words that begin with a word stand right behind it.
    ordered = sorted(set(words))
    for word, other in zip(ordered, ordered[1:]):
        if other.startswith(word):
            return word, other
    return None
