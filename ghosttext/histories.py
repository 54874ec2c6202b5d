"""What a history of uses needs in all, why, and what it needs if it is repeated."""

from ghosttext.integers import check_index, check_integer
from ghosttext.suggestions import count_keys
from ghosttext.words import check_book, check_history, check_no_clash, play_uses


def keys_of_uses(history, *, start=None):
    """Return the number of keys of each use, on a book or on the empty one."""
    return _checked_keys(history, start)


def total_keys(history, *, start=None):
    """Return the number of keys of all uses, on a book or on the empty one."""
    return sum(_checked_keys(history, start))


def saved_keys(history, *, start=None):
    """Return how many keys fewer that is than with all words typed to their ends."""
    needed = sum(_checked_keys(history, start))
    return sum([len(word) + 1 for word in history]) - needed


def obstacle(history, index):
    """Return the beginning and the position that make a use need its keys, or None."""
    check_history(history)
    check_index(index, len(history))
    word = history[index]
    found = None
    # Backwards, so that of equally long beginnings the last use counts.
    for position in reversed(range(index)):
        if history[position] == word:
            return found
        beginning = _common_beginning(word, history[position])
        if found is None or len(beginning) > len(found[0]):
            found = beginning, position
    return None


def round_keys(history):
    """Return the numbers of keys of the first round and of each later round."""
    check_history(history)
    return _round_keys(history)


def keys_of_rounds(history, rounds):
    """Return the number of keys of so many rounds of a history."""
    check_history(history)
    check_integer(rounds, 0, 10 ** 30)
    if rounds == 0:
        return 0
    first, later = _round_keys(history)
    return first + (rounds - 1) * later


def steady_keys(words):
    """Return the tuples of a word and what its use needs from the second round on."""
    check_book(words)
    numbers = _keys_on(words, words)
    return sorted([(word, number) for word, number in zip(words, numbers)])


def _checked_keys(history, start):
    check_history(history)
    if start is None:
        return _keys_on([], history)
    check_book(start)
    check_no_clash([*start, *history])
    return _keys_on(start, history)


def _keys_on(book, uses):
    numbers = []
    for word in uses:
        numbers.append(count_keys(book, word))
        book = play_uses(book, [word])
    return numbers


def _round_keys(history):
    # After one round the book holds all words in the order in which each round leaves them.
    book = play_uses([], history)
    return sum(_keys_on([], history)), sum(_keys_on(book, history))


def _common_beginning(word, other):
    length = 0
    # Words that do not clash differ before one of them ends.
    while word[length] == other[length]:
        length += 1
    return word[:length]
