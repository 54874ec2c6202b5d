"""Which numbers of keys are possible, in how many books, and in which state."""

from math import factorial

from ghosttext.branches import find_branchings
from ghosttext.errors import ImpossibleKeysError, InvalidKeysError
from ghosttext.integers import check_integer, is_integer_from
from ghosttext.words import check_book, check_known_word


def possible_keys(words, word):
    """Return the numbers of keys that a word needs in some book of these words, ascending."""
    check_book(words)
    check_known_word(words, word)
    return [1] + [len(text) + 2 for text, _ in find_branchings(words) if word.startswith(text)]


def count_books_with(words, word, keys):
    """Return in how many books of these words a word needs this number of keys."""
    check_book(words)
    check_known_word(words, word)
    check_integer(keys, 1)
    # So many letters and no fewer make the word the suggestion.
    enough = _count_books_suggesting(words, word[:keys - 1])
    if keys == 1:
        return enough
    return enough - _count_books_suggesting(words, word[:keys - 2])


def state_from_keys(words, keys):
    """Return the state in which the words need these numbers of keys."""
    check_book(words)
    _check_keys(words, keys)
    needed = dict(zip(words, keys))
    rest = list(words)
    state = []
    for text in _longest_first(words):
        sent = [word for word in rest if word.startswith(text)]
        chosen = [word for word in sent if needed[word] != len(text) + 2]
        if len(chosen) != 1:
            raise ImpossibleKeysError(text)
        state.append((text, chosen[0][len(text)]))
        rest = [word for word in rest if word not in sent or word in chosen]
    # What is left is the word that was chosen last, or the only one.
    if [needed[word] for word in rest] != [1] * len(rest):
        raise ImpossibleKeysError(None)
    return sorted(state)


def _count_books_suggesting(words, text):
    # In equally many books each word with this beginning is the last one of them.
    many = len([word for word in words if word.startswith(text)])
    return factorial(len(words)) // many


def _check_keys(words, value):
    if type(value) != list or len(value) != len(words):
        raise InvalidKeysError("the value is not a list with one number for each word")
    if not all([is_integer_from(number, 1) for number in value]):
        raise InvalidKeysError("a number of keys is not an integer from 1 on")


def _longest_first(words):
    texts = [text for text, _ in find_branchings(words)]
    return sorted(texts, key=lambda beginning: -len(beginning))
