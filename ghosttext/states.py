"""The states of a set of words: how many there are, which index each has, what a use does."""

from ghosttext.branches import find_branchings
from ghosttext.errors import InvalidStateError
from ghosttext.integers import check_index
from ghosttext.words import check_book, check_known_word


def is_state(words, value):
    """Return whether any value is a state of the words."""
    check_book(words)
    return _is_state(words, value)


def count_states(words):
    """Return the number of states of the words."""
    check_book(words)
    return _count_states(words)


def nth_state(words, index):
    """Return the state with this index among all states in ascending order."""
    check_book(words)
    check_index(index, _count_states(words))
    state = []
    # The last branching changes fastest from one state to the next one.
    for text, letters in reversed(find_branchings(words)):
        index, place = divmod(index, len(letters))
        state.append((text, letters[place]))
    return state[::-1]


def state_rank(words, state):
    """Return the index of a state among all states in ascending order."""
    check_book(words)
    check_state(words, state)
    rank = 0
    for (_, letters), (_, letter) in zip(find_branchings(words), state):
        rank = rank * len(letters) + letters.index(letter)
    return rank


def state_after(words, state, word):
    """Return the state after a use of one of the words."""
    check_book(words)
    check_state(words, state)
    check_known_word(words, word)
    return [(text, word[len(text)] if word.startswith(text) else letter) for text, letter in state]


def book_of_state(words, state):
    """Return a book of these words with this state."""
    check_book(words)
    check_state(words, state)
    book = sorted(words)
    # Longer branchings come first: what is done for a shorter one keeps the order behind them.
    for text, letter in reversed(state):
        latest = [word for word in book if word.startswith(text + letter)]
        book = [word for word in book if word not in latest] + latest
    return book


def check_state(words, value):
    """Raise InvalidStateError if the value is not a state of valid words."""
    if not _is_state(words, value):
        raise InvalidStateError("the value is not a state of the words")


def _is_state(words, value):
    rows = find_branchings(words)
    if type(value) != list or len(value) != len(rows):
        return False
    return all([_is_choice(item, text, letters) for item, (text, letters) in zip(value, rows)])


def _is_choice(value, text, letters):
    if type(value) != tuple or len(value) != 2:
        return False
    branching, branch = value
    if not isinstance(branching, str) or not isinstance(branch, str):
        return False
    return branching == text and len(branch) == 1 and branch in letters


def _count_states(words):
    many = 1
    for _, letters in find_branchings(words):
        many = many * len(letters)
    return many
