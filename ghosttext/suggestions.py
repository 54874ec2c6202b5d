"""What is suggested, and how many keys a word needs and why."""

from ghosttext.errors import InvalidTextError
from ghosttext.words import check_book, check_known_word, check_no_clash, check_word, is_text


def suggestion(book, text):
    """Return the suggestion for a text, or None if there is none."""
    check_book(book)
    if not is_text(text):
        raise InvalidTextError("a text is a string of 0 to 12 lowercase letters")
    return last_with(book, text)


def keys_for(book, word):
    """Return the number of keys for a word of the book or a new one."""
    _check_entry(book, word)
    return count_keys(book, word)


def key_text(book, word):
    """Return the letters that are typed to enter the word, and a plus."""
    _check_entry(book, word)
    return typed_letters(book, word) + "+"


def steps(book, word):
    """Yield each text that is typed to enter the word, with its suggestion."""
    _check_entry(book, word)
    typed = typed_letters(book, word)
    texts = [typed[:length] for length in range(len(typed) + 1)]
    # All are found at once, so that a caller may change the book in between.
    found = [(text, last_with(book, text)) for text in texts]
    yield from found


def key_counts(book):
    """Return the tuples of a word and its number of keys, in ascending order."""
    check_book(book)
    return [(word, count_keys(book, word)) for word in sorted(book)]


def blocker(book, word):
    """Return the word that is suggested last before the given one, or None."""
    check_book(book)
    check_known_word(book, word)
    return find_blocker(book, word)


def last_with(book, text):
    """Return the last word of a valid book that begins with the text, or None."""
    for word in reversed(book):
        if word.startswith(text):
            return word
    return None


def typed_letters(book, word):
    """Return the letters that are typed to enter a word that fits into the book."""
    for length in range(len(word)):
        if last_with(book, word[:length]) == word:
            return word[:length]
    return word


def count_keys(book, word):
    """Return the number of keys for a word that fits into the book."""
    return len(typed_letters(book, word)) + 1


def find_blocker(book, word):
    """Return the word that is suggested last before a word of a valid book, or None."""
    typed = typed_letters(book, word)
    if typed == "":
        return None
    return last_with(book, typed[:-1])


def _check_entry(book, word):
    check_book(book)
    check_word(word)
    check_no_clash([*book, word])
