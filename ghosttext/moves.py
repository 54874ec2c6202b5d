"""The fewest uses that lead from a book to one that is alike to a goal."""

from ghosttext.branches import check_same_words, find_state
from ghosttext.errors import InvalidHistoryError
from ghosttext.integers import check_index
from ghosttext.placements import count_placements, nth_placement, placement_rank
from ghosttext.suggestions import find_blocker, last_with
from ghosttext.words import check_book, is_history, play_uses


def fewest_uses(book, goal):
    """Return the smallest number of uses that make the book alike to the goal."""
    _check_books(book, goal)
    return len(_needed_words(book, goal))


def needed_words(book, goal):
    """Return the words that every shortest list uses, in ascending order."""
    _check_books(book, goal)
    return _needed_words(book, goal)


def count_shortest(book, goal):
    """Return the number of shortest lists."""
    _check_books(book, goal)
    return count_placements(_blockers(book, goal))


def nth_shortest(book, goal, index):
    """Return the shortest list with this index among all of them in ascending order."""
    _check_books(book, goal)
    above = _blockers(book, goal)
    check_index(index, count_placements(above))
    return nth_placement(above, index)


def shortest_rank(book, goal, value):
    """Return the index of a shortest list among all of them in ascending order."""
    _check_books(book, goal)
    if not _is_shortest(book, goal, value):
        raise InvalidHistoryError("the value is not a shortest list")
    return placement_rank(_blockers(book, goal), value)


def is_shortest(book, goal, value):
    """Return whether any value is a shortest list."""
    _check_books(book, goal)
    return _is_shortest(book, goal, value)


def _check_books(book, goal):
    check_book(book)
    check_book(goal)
    check_same_words(book, goal)


def _is_shortest(book, goal, value):
    if not is_history(value) or sorted(value) != _needed_words(book, goal):
        return False
    return find_state(play_uses(book, value)) == find_state(goal)


def _needed_words(book, goal):
    # A use for a branching that must change is also one for each shorter beginning of it,
    # and the last use for a text must be the one of the word that the goal suggests for it.
    changing = [text for (text, letter), (_, wanted) in zip(find_state(book), find_state(goal)) if letter != wanted]
    return sorted({last_with(goal, text[:length]) for text in changing for length in range(len(text) + 1)})


def _blockers(book, goal):
    # What blocks a needed word in the goal is needed, too, and is used behind it.
    return {word: find_blocker(goal, word) for word in _needed_words(book, goal)}
