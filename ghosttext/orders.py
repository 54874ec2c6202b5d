"""The books that are alike to a book: how many there are and which index each has."""

from ghosttext.integers import check_index
from ghosttext.placements import count_placements, nth_placement, placement_rank
from ghosttext.suggestions import find_blocker
from ghosttext.words import check_book


def count_alike(book):
    """Return the number of the books that are alike to the book, itself included."""
    check_book(book)
    return count_placements(_blockers(book))


def nth_alike(book, index):
    """Return the book with this index among the alike ones in ascending order."""
    check_book(book)
    above = _blockers(book)
    check_index(index, count_placements(above))
    return nth_placement(above, index)


def alike_rank(book):
    """Return the index of the book among those that are alike to it."""
    check_book(book)
    return placement_rank(_blockers(book), book)


def _blockers(book):
    # In an alike book the same words are suggested for the same texts,
    # and this is so if each word was used before the one that blocks it here.
    return {word: find_blocker(book, word) for word in book}
