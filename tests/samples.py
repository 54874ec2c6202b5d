"""Books, wrong values and checks that several test files use."""

import itertools
import math
import random

B = ["car", "cat", "cow", "dog"]
C = ["cat", "cow", "dog", "car"]

LONG_WORD = "abcdefghijkl"
TOO_LONG_WORD = LONG_WORD + "m"


class Text(str):
    """A string of another class."""


class Row(list):
    """A list of another class, which is not exactly a list."""


NOT_STRINGS = [None, True, False, 0, 1, -7, 10 ** 30, 2.5, b"car", ["car"], ("car",), {"car"}, {"car": 1}, [], object()]
NOT_TEXTS = NOT_STRINGS + [
    TOO_LONG_WORD, "a" * 4000, "Car", "caR", "CAR", "car1", "1", "c r", " ", " car", "car ", "car\n", "\n", "c-r",
    "car+", "+", "-", "caf\u00e9", "\u00df", "\u00aa", "\u0430", "ca\u0308",
]
NOT_WORDS = NOT_TEXTS + [""]

# Each list holds a value that is no word, so it is neither a book nor a history.
LISTS_WITHOUT_WORDS_ONLY = [[value] for value in NOT_WORDS] + [["cow", value, "dog"] for value in NOT_WORDS]
NOT_WORD_LISTS = LISTS_WITHOUT_WORDS_ONLY + [
    None, True, False, 0, 1, 10 ** 30, 2.5, "", "car", "car cat", b"car", (), ("car",), ("car", "cat"), {"car"},
    set(), {}, {"car": 1}, [["car"]], [["car", "cat"]], [[]], [["car"], "cat"], [[[["car"]]]], [("car",)],
    range(0), iter(["car"]), object(), Row(["car"]), Row(),
]
CLASHING_LISTS = [
    ["in", "into"], ["into", "in"], ["car", "i", "in"], ["a", LONG_WORD], [LONG_WORD, "dog", LONG_WORD[:11]],
    ["up", "in", "go", "inn", "ups"],
]
NOT_HISTORIES = NOT_WORD_LISTS + CLASHING_LISTS + [["go", "in", "go", "into"]]
NOT_BOOKS = NOT_WORD_LISTS + CLASHING_LISTS + [
    ["car", "car"], ["car", "cat", "car"], ["cat", "car", "car", "cow"], [LONG_WORD, "dog", LONG_WORD],
]


NOT_INTEGERS = [None, True, False, "", "1", "0", 0.0, 1.0, 2.5, b"1", [], [1], (1,), {1}, {1: 1}, range(2), object()]

# Small enough for a search over all orders.
SMALL_SETS = [
    [], ["a"], [LONG_WORD], ["a", "b"], ["car", "cat"], B, ["an", "at", "in", "it", "up"], ["e", "d", "c", "b", "a"],
    ["xxb", "xxd", "xxa", "xxe", "xxc"], ["b", "ab", "aab", "aaab", "aaaab", "aaaaa"],
    ["ab", "ba", "aa", "bb", "ca"], ["go", "up", "in"],
    [LONG_WORD, LONG_WORD[:11] + "a", LONG_WORD[:6] + "a", "z"], ["zaa", "zab", "zba", "zbb", "y", "x"],
]


def full_book(many=120):
    """Return many words of 12 letters that all have a long beginning in common."""
    letters = LONG_WORD
    rows = ["abcabcabc" + one + two + three for one in letters for two in letters for three in letters]
    return rows[7:7 + 13 * many:13]


def chain_book():
    """Return words of 1 to 12 letters in which each length has its own branching."""
    return ["a" * length + "b" for length in range(12)] + ["a" * 12]


def random_books(seed, many):
    """Return many books in which the words have various lengths and beginnings."""
    source = random.Random(seed)
    return [random_book(source) for _ in range(many)]


def random_book(source):
    letters = "abcdefghijklmnopqrstuvwxyz"[:source.choice([2, 3, 5, 26])]
    longest = source.choice([3, 6, 12])
    book = []
    for _ in range(source.choice([0, 1, 3, 10, 40, 150])):
        word = "".join(source.choice(letters) for _ in range(source.randint(1, longest)))
        if len(book) < 120 and not any(other.startswith(word) or word.startswith(other) for other in book):
            book.append(word)
    return book


def wide_book():
    """Return words with 26 branches behind the empty text and behind some longer ones."""
    letters = "zyxwvutsrqponmlkjihgfedcba"
    others = [letter for letter in letters if letter not in "mq"]
    return others + ["m" + letter for letter in letters] + ["qqqqqqqqqqq" + letter for letter in letters]


def large_books():
    """Return books of many words with long common beginnings or many branches behind one text."""
    return [full_book(), chain_book(), chain_book()[::-1], wide_book(), full_book()[::-1]]


def sets_for_search(seed, many):
    """Return sets of at most six words that have many common beginnings."""
    source = random.Random(seed)
    rows = []
    for _ in range(many):
        words = []
        for _ in range(source.randint(2, 12)):
            word = "".join(source.choice("ab" if source.random() < 0.6 else "abc") for _ in range(source.randint(1, 5)))
            if len(words) < 6 and not any(other.startswith(word) or word.startswith(other) for other in words):
                words.append(word)
        rows.append(words)
    return SMALL_SETS + rows


def orders_of(words):
    """Return all books of these words."""
    return [list(order) for order in itertools.permutations(words)]


def slow_suggestion(book, text):
    found = None
    for word in book:
        if word[:len(text)] == text:
            found = word
    return found


def slow_steps(book, word):
    """Type letters until the word is the suggestion, but at most to its end."""
    rows = []
    for letter in [""] + list(word):
        text = rows[-1][0] + letter if rows else ""
        rows.append((text, slow_suggestion(book, text)))
        if rows[-1][1] == word:
            break
    return rows


def slow_keys(book, word):
    return len(slow_steps(book, word))


def slow_branchings(words):
    """Look for texts behind which several letters follow among the beginnings of the words."""
    following = {}
    for beginning in {word[:length] for word in words for length in range(1, len(word) + 1)}:
        following.setdefault(beginning[:-1], set()).add(beginning[-1])
    return sorted((text, "".join(sorted(letters))) for text, letters in following.items() if len(letters) >= 2)


def slow_state(book):
    return [(text, slow_suggestion(book, text)[len(text)]) for text, _ in slow_branchings(book)]


def slow_play(book, uses):
    """Return the numbers of keys of the uses, and the book after them."""
    numbers = []
    for word in uses:
        numbers.append(slow_keys(book, word))
        book = [other for other in book if other != word] + [word]
    return numbers, book


def new_word(source, book):
    """Return a word that may be added to the book, or None."""
    for _ in range(50):
        word = "".join(source.choice("abcz") for _ in range(source.randint(1, 12)))
        if not any(other.startswith(word) or word.startswith(other) for other in book):
            return word
    return None


def common_length(word, other):
    """Return the length of the longest common beginning."""
    length = 0
    while length < min(len(word), len(other)) and word[length] == other[length]:
        length += 1
    return length


def raised_by(function, *args, **named):
    """Return the error of a call, after checking that the call changed nothing."""
    before = repr((args, named))
    try:
        drawn(function(*args, **named))
    except ValueError as error:
        assert repr((args, named)) == before, "the call changed an argument"
        return error
    raise AssertionError(f"{function.__name__} raised no error for {before}")


def answer_of(function, *args, **named):
    """Return what a call returns, after checking that the call changed nothing."""
    before = repr((args, named))
    result = drawn(function(*args, **named))
    assert repr((args, named)) == before, "the call changed an argument"
    return result


def drawn(result):
    """Return a result, as a list if it is yielded."""
    return list(result) if hasattr(result, "__next__") else result


def caterpillar_book(many=120):
    """Return words of which each but the last one may stand anywhere before the last one in alike books."""
    return [length * "z" + letter for length in range(12) for letter in "tsrqponmlkjihgfedcbayxwvu"][:many]


def count_by_shuffles(order):
    """Return the number of lists of these words in which the same words come last among those with each beginning."""
    if len(order) < 2:
        return 1
    length = min(common_length(order[0], other) for other in order)
    groups = {}
    for word in order:
        groups.setdefault(word[length], []).append(word)
    # The last word of all stays in its group; the other places are shared out.
    free = {letter: len(group) for letter, group in groups.items()}
    free[order[-1][length]] -= 1
    many = math.factorial(len(order) - 1)
    for letter, group in groups.items():
        many = many // math.factorial(free[letter]) * count_by_shuffles(group)
    return many
