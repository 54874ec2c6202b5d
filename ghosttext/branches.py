"""Where the words of a book branch, which branches are the latest, and which books are alike."""

from ghosttext.errors import DifferentWordsError
from ghosttext.suggestions import count_keys, last_with
from ghosttext.words import check_book


def branchings(words):
    """Return the tuples of a branching and its branches, in ascending order."""
    check_book(words)
    return find_branchings(words)


def state_of(book):
    """Return the state of the book."""
    check_book(book)
    return find_state(book)


def constant_list(words):
    """Return the sorted numbers of keys that the words need in any order."""
    check_book(words)
    numbers = [1] if len(words) > 0 else []
    for text, letters in find_branchings(words):
        numbers.extend([len(text) + 2] * (len(letters) - 1))
    return sorted(numbers)


def are_alike(book, other):
    """Return whether two books are alike."""
    check_book(book)
    check_book(other)
    return sorted(book) == sorted(other) and find_state(book) == find_state(other)


def word_that_differs(book, other):
    """Return the smallest word that needs another number of keys, or None if the books are alike."""
    check_book(book)
    check_book(other)
    check_same_words(book, other)
    for word in sorted(book):
        if count_keys(book, word) != count_keys(other, word):
            return word
    return None


def check_same_words(book, other):
    """Raise DifferentWordsError if two valid books do not have the same words."""
    if sorted(book) != sorted(other):
        raise DifferentWordsError("the books do not have the same words")


def find_branchings(words):
    """Return the branchings of valid words with their branches."""
    following = {}
    # In ascending order of the words the letters behind each text ascend, too.
    for word in sorted(words):
        for length in range(len(word)):
            letters = following.get(word[:length], "")
            if not letters.endswith(word[length]):
                following[word[:length]] = letters + word[length]
    return [(text, following[text]) for text in sorted(following) if len(following[text]) > 1]


def find_state(book):
    """Return the state of a valid book."""
    return [(text, last_with(book, text)[len(text)]) for text, _ in find_branchings(book)]
