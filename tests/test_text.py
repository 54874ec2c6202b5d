"""Books, histories and states as strings: [3] to [6], [8] and [25]."""

import random
import unittest

from ghosttext import errors
from ghosttext.branches import state_of
from ghosttext.states import count_states, nth_state
from ghosttext.text import format_state, format_words, parse_state, parse_words
from tests.samples import (
    B, C, LONG_WORD, NOT_BOOKS, NOT_HISTORIES, NOT_STRINGS, NOT_WORDS, Row, Text, TOO_LONG_WORD, answer_of,
    chain_book, full_book, large_books, raised_by, random_books, sets_for_search, wide_book,
)

STATE = [("", "d"), ("c", "o"), ("ca", "t")]
# No string of words or of a state of the words of B.
NOT_TEXTS_OF_ITEMS = NOT_STRINGS + [
    " ", "  ", "\n", "+", "-", ":", "::", ": :", "A", "1", "a\n", "\na", "a\nb", " a", "a ", "a  b", " a b", "a b ",
    "a b  ", "a,b", "a, b", "['a']", "[]", "Car", "car Cat", "car cat1", "car+cat", "car-", "c r t ", "caf\u00e9",
    "a\u00a0b", "a\tb", TOO_LONG_WORD, "a" * 4000, " " * 4000, "car " + TOO_LONG_WORD, "\u00df", "a\u2003b",
]


def histories():
    """Return histories of up to 200 uses."""
    source = random.Random(81)
    rows = [[], ["a"], ["a", "a"], [LONG_WORD], B, C, ["in", "go", "in"], [LONG_WORD] * 200]
    for book in large_books() + random_books(82, 30):
        rows += [book, [source.choice(book) for _ in range(200 if book else 0)]]
    return rows


def words_with_states():
    """Return pairs of words and one of their states."""
    source = random.Random(83)
    pairs = []
    for words in large_books() + random_books(84, 30) + sets_for_search(85, 10):
        many = count_states(words)
        for index in {0, many - 1, source.randrange(many)}:
            pairs.append((words, nth_state(words, index)))
        pairs.append((words, state_of(words)))
    return pairs


def pieces(state):
    return [text + ":" + letter for text, letter in state]


class DocumentExamples(unittest.TestCase):
    def test_all(self):
        result = [format_words(["in", "go", "in"]), parse_words("in go")]
        self.assertEqual(result, ["in go in", ["in", "go"]])
        self.assertEqual(format_state(B, [("", "d"), ("c", "o"), ("ca", "t")]), ":d c:o ca:t")
        self.assertEqual([parse_state(["an", "up"], ":u"), parse_state(["an"], "")], [[("", "u")], []])


class Words(unittest.TestCase):
    def test_empty(self):
        self.assertEqual([answer_of(format_words, []), answer_of(parse_words, "")], ["", []])

    def test_there_and_back(self):
        for history in histories():
            text = answer_of(format_words, history)
            self.assertEqual(text, "".join(" " + word for word in history)[1:])
            self.assertEqual(answer_of(parse_words, text), history)

    def test_words_that_occur_several_times(self):
        self.assertEqual(parse_words("in go in in"), ["in", "go", "in", "in"])

    def test_longer_ones_than_the_limit(self):
        history = full_book(130) * 3
        self.assertEqual(parse_words(format_words(history)), history)

    def test_invalid_history(self):
        for value in NOT_HISTORIES + ["in go", ("in", "go"), Row(["in"])]:
            with self.subTest(value):
                self.assertIs(type(raised_by(format_words, value)), errors.InvalidHistoryError)

    def test_invalid_text(self):
        for value in NOT_TEXTS_OF_ITEMS + [value for value in NOT_WORDS if value not in ["", "c r"]]:
            with self.subTest(value):
                self.assertIs(type(raised_by(parse_words, value)), errors.InvalidFormatError)

    def test_clashing_words(self):
        for text in ["in into", "into in", "a an", "go in go inn", "a " + LONG_WORD, "in in into"]:
            with self.subTest(text):
                self.assertIs(type(raised_by(parse_words, text)), errors.InvalidFormatError)

    def test_spaces(self):
        for history in [["a"], ["in", "go"], ["in", "go", "in"], B]:
            text = format_words(history)
            for wrong in [" " + text, text + " ", text + "\n", "\n" + text, text + "  " + text,
                          text + "\n" + text, text + " " + text.upper(), text.title()]:
                with self.subTest(wrong):
                    self.assertIs(type(raised_by(parse_words, wrong)), errors.InvalidFormatError)
            self.assertEqual(parse_words(text + " " + text), history + history)

    def test_kinds(self):
        self.assertEqual([type(format_words([])), type(parse_words("")), type(parse_words("a"))], [str, list, list])
        for text in [Text("car"), Text("car cat")]:
            self.assertEqual(parse_words(text), text.split(" "))
            self.assertEqual({type(word) for word in parse_words(text)}, {str})


class States(unittest.TestCase):
    def test_without_branchings(self):
        for words in [[], ["a"], [LONG_WORD]]:
            self.assertEqual([answer_of(format_state, words, []), answer_of(parse_state, words, "")], ["", []])

    def test_there_and_back(self):
        for words, state in words_with_states():
            text = answer_of(format_state, words, state)
            self.assertEqual(text, " ".join(pieces(state)))
            self.assertEqual(answer_of(parse_state, words, text), state)
            self.assertEqual(parse_state(words[::-1], text), state)

    def test_every_state(self):
        for words in sets_for_search(86, 10):
            texts = [format_state(words, nth_state(words, index)) for index in range(count_states(words))]
            self.assertEqual(len(set(texts)), count_states(words))
            for index, text in enumerate(texts):
                self.assertEqual(parse_state(words, text), nth_state(words, index))

    def test_long_branchings(self):
        words = wide_book()
        self.assertEqual(format_state(words, state_of(words)), ":q m:a qqqqqqqqqqq:a")
        self.assertEqual(format_state(chain_book()[:3], state_of(chain_book()[:3])), ":a a:a")

    def test_invalid_text(self):
        for value in NOT_TEXTS_OF_ITEMS + [
            "", "car", "car cat cow dog", ":d", ":d c:o", "c:o ca:t", ":d ca:t c:o", ":d c:o ca:t ca:t", ":d c:o ca:x",
            ":x c:o ca:t", ":d c:o ca:", ":d c:o ca", ":d c: ca:t", "d c:o ca:t", ":d c:o ca:tt", ":d c:o ca:t:",
            ":d c:o ca::t", "::d c:o ca:t", ":d c:o ca:t ", " :d c:o ca:t", ":d  c:o ca:t", ":d\nc:o\nca:t",
            ":d c:o ca:t\n", ":D c:o ca:t", ":d C:o ca:t", ":d c:O ca:t", ":d c:o CA:T", ":d c:o ca:t z:z",
            ":d c :o ca:t", ":d c: o ca:t", ": d c:o ca:t", ":d,c:o,ca:t", ":d c=o ca:t", ":c o:c ca:t", ":d co: ca:t",
            ":d c:ao ca:t", ":cd c:o ca:t", ":d c:o ca:rt", ":d c:o c:o", ":d :d ca:t", str(STATE),
        ]:
            with self.subTest(value):
                self.assertIs(type(raised_by(parse_state, B, value)), errors.InvalidFormatError)
        self.assertEqual(parse_state(B, ":d c:o ca:t"), STATE)

    def test_texts_of_no_branchings(self):
        for words in [[], ["a"], [LONG_WORD]]:
            for value in NOT_TEXTS_OF_ITEMS + [":a", "a:", "a", "a:b"]:
                with self.subTest(words=words, value=value):
                    self.assertIs(type(raised_by(parse_state, words, value)), errors.InvalidFormatError)

    def test_states_of_other_words(self):
        for words in [B[:2], C[:3], B + ["up", "us"], ["an", "up"], [], full_book()]:
            text = format_state(words, state_of(words))
            self.assertIs(type(raised_by(parse_state, B, text)), errors.InvalidFormatError)
            self.assertIs(type(raised_by(format_state, B, state_of(words))), errors.InvalidStateError)
        self.assertIs(type(raised_by(parse_state, B, ":d c:o ca:p")), errors.InvalidFormatError)
        self.assertEqual(parse_state(B + ["cap"], ":d c:o ca:p"), [("", "d"), ("c", "o"), ("ca", "p")])

    def test_invalid_words(self):
        for value in NOT_BOOKS:
            with self.subTest(value):
                for text in ["", ":d c:o ca:t", " ", None, 0]:
                    self.assertIs(type(raised_by(parse_state, value, text)), errors.InvalidBookError)
                for state in [[], STATE, None, ":d", [("", "d")]]:
                    self.assertIs(type(raised_by(format_state, value, state)), errors.InvalidBookError)

    def test_invalid_state(self):
        for value in NOT_STRINGS + [
            "", ":d c:o ca:t", tuple(STATE), Row(STATE), STATE[::-1], STATE[:2], STATE + STATE[:1], [STATE],
            [list(row) for row in STATE], [("", "d"), ("c", "o"), ("ca", "x")], [("", "d"), ("c", "o"), ("cb", "t")],
            [("", "d"), ("c", "o"), ("ca", "")], [("", "d"), ("c", "o"), ("ca", "rt")], [("", "D"), *STATE[1:]],
            [("", "d"), ("c", "o"), ("ca",)], [("", "d"), ("c", "o"), ("ca", "t", "t")], [(None, "d"), *STATE[1:]],
        ]:
            with self.subTest(value):
                self.assertIs(type(raised_by(format_state, B, value)), errors.InvalidStateError)
        for words in [[], ["a"]]:
            for value in [None, (), "", [("", "a")], [()], Row()]:
                self.assertIs(type(raised_by(format_state, words, value)), errors.InvalidStateError)

    def test_kinds(self):
        result = parse_state(B, Text(":d c:o ca:t"))
        self.assertEqual([type(result)] + [type(row) for row in result], [list] + [tuple] * 3)
        self.assertEqual([type(format_state(B, STATE)), type(format_state([], []))], [str, str])
        self.assertEqual(type(parse_state([], "")), list)


class GeneralRules(unittest.TestCase):
    def test_by_name(self):
        self.assertEqual([format_words(history=["in", "go"]), parse_words(text="in go")], ["in go", ["in", "go"]])
        self.assertEqual(format_state(state=STATE, words=B), ":d c:o ca:t")
        self.assertEqual(parse_state(text=":d c:o ca:t", words=B), STATE)

    def test_results_are_new_lists(self):
        words = B[:]
        parse_words("in go").clear()
        parse_state(words, ":d c:o ca:t").clear()
        parse_words("").append("a")
        parse_state([], "").append("a")
        self.assertEqual([parse_words("in go"), parse_words(""), parse_state([], "")], [["in", "go"], [], []])
        self.assertEqual([parse_state(words, ":d c:o ca:t"), words], [STATE, B])

    def test_changed_lists_are_read_anew(self):
        words, state = B[:], STATE[:]
        self.assertEqual(format_state(words, state), ":d c:o ca:t")
        state[0] = ("", "c")
        self.assertEqual(format_state(words, state), ":c c:o ca:t")
        words.remove("car")
        self.assertIs(type(raised_by(format_state, words, state)), errors.InvalidStateError)
        self.assertIs(type(raised_by(parse_state, words, ":d c:o ca:t")), errors.InvalidFormatError)
        self.assertEqual(parse_state(words, ":d c:o"), [("", "d"), ("c", "o")])


if __name__ == "__main__":
    unittest.main()
