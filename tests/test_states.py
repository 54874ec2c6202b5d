"""The states of a set of words: [3] to [5], [8] and [16]."""

import itertools
import random
import unittest

from ghosttext import errors
from ghosttext.branches import branchings, state_of
from ghosttext.states import book_of_state, count_states, is_state, nth_state, state_after, state_rank
from ghosttext.words import after_uses
from tests.samples import (
    B, C, LONG_WORD, NOT_BOOKS, NOT_INTEGERS, NOT_WORDS, Row, Text, answer_of, chain_book, full_book, large_books,
    orders_of, raised_by, random_books, sets_for_search, slow_branchings, slow_state, wide_book,
)

D = ["an", "at", "in", "it", "up"]
WITHOUT_BRANCHINGS = [[], ["a"], [LONG_WORD]]


class Pair(tuple):
    """A tuple of another class, which is not exactly a tuple."""


class Anything:
    """An object that says that it is equal to any value."""

    def __eq__(self, other):
        return True

    def __len__(self):
        return 1


def slow_states(words):
    """Return the states of all orders of the words, in ascending order."""
    found = []
    for order in orders_of(words):
        if slow_state(order) not in found:
            found.append(slow_state(order))
    return sorted(found)


def sample_states(words, seed):
    """Return some states of the words, the first and the last one among them."""
    source = random.Random(seed)
    rows = slow_branchings(words)
    chosen = [[(text, source.choice(letters)) for text, letters in rows] for _ in range(5)]
    return chosen + [[(text, letters[0]) for text, letters in rows], [(text, letters[-1]) for text, letters in rows]]


def many_words():
    return [B, C, D] + WITHOUT_BRANCHINGS + large_books() + random_books(31, 40)


STATE = [("", "d"), ("c", "o"), ("ca", "t")]
NOT_STATES_OF_B = [
    None, True, False, 0, 1, 2.5, "", "d", ":d c:o ca:t", (), tuple(STATE), {}, dict(STATE), set(STATE), [], [[]], [()],
    object(), iter(STATE), range(3), Row(STATE), [STATE], [None] * 3, ["d", "o", "t"], ["", "c", "ca"], [0, 1, 2],
    STATE[:2], STATE[1:], STATE + [("x", "y")], STATE + STATE, STATE + [STATE[2]], STATE[::-1],
    [STATE[0], STATE[2], STATE[1]], [STATE[0], STATE[1], STATE[1]],
    [list(row) for row in STATE], [STATE[0], ["c", "o"], STATE[2]], [STATE[0], Pair(("c", "o")), STATE[2]],
] + [[("", "d"), value, ("ca", "t")] for value in [
    ("c", "x"), ("c", ""), ("c", "ao"), ("c", "O"), ("c", None), ("c", 0), ("c", True), ("c", b"o"), ("c", ["o"]),
    ("c", ("o",)), ("c",), ("c", "o", "o"), (), None, "co", 7, ("C", "o"), ("x", "o"), ("", "o"), (None, "o"), (0, "o"),
    (b"c", "o"), (["c"], "o"), ("co", "o"), ("o", "c"), ("c", "c"), ("c", "t"), ("c", "o\n"), ("c ", "o"), {"c": "o"},
    {"c", "o"}, [], object(), (Anything(), "o"), ("c", Anything()), Anything(),
]]


def not_states_of(words):
    """Return values that are no states of valid words, whatever words these are."""
    state = state_of(words)
    rows = [None, True, 0, "", (), tuple(state), {}, Row(state), state + [("zz", "z")], state + [()], [None], [state]]
    if state:
        rows += [[], state[1:], state[:-1], state + state[-1:], [list(row) for row in state], ["a"] * len(state)]
        rows += [state[:-1] + [(state[-1][0], "%")], [("#", state[0][1])] + state[1:]]
    return rows


class DocumentExamples(unittest.TestCase):
    def test_states(self):
        result = [count_states(B), nth_state(B, 0), state_rank(B, state_of(B))]
        self.assertEqual(result, [8, [("", "c"), ("c", "a"), ("ca", "r")], 7])
        result = [state_after(B, state_of(B), "car"), state_of(book_of_state(B, nth_state(B, 5)))]
        self.assertEqual(result, [[("", "c"), ("c", "a"), ("ca", "r")], [("", "d"), ("c", "a"), ("ca", "t")]])


class IsState(unittest.TestCase):
    def test_states_of_books(self):
        for words in many_words():
            for state in [state_of(words), state_of(words[::-1])] + sample_states(words, 32):
                self.assertIs(answer_of(is_state, words, state), True)
                self.assertIs(is_state(words[::-1], state), True)

    def test_every_branch(self):
        words = ["xa", "xc", "y"]
        for first, second in itertools.product("abcxyz", repeat=2):
            expected = first in "xy" and second in "ac"
            self.assertIs(answer_of(is_state, words, [("", first), ("x", second)]), expected)

    def test_without_branchings(self):
        for words in WITHOUT_BRANCHINGS:
            self.assertIs(answer_of(is_state, words, []), True)
            for value in [[()], [("", "a")], [("", "")], (), None, "", 0, False, {}, [[]], Row()]:
                with self.subTest(words=words, value=value):
                    self.assertIs(answer_of(is_state, words, value), False)

    def test_other_values(self):
        self.assertIs(is_state(B, STATE), True)
        for value in NOT_STATES_OF_B:
            with self.subTest(value):
                self.assertIs(answer_of(is_state, B, value), False)
        for words in many_words():
            for value in not_states_of(words):
                self.assertIs(answer_of(is_state, words, value), False)

    def test_states_of_other_words(self):
        self.assertIs(is_state(D, STATE), False)
        self.assertIs(is_state(B[1:], STATE), False)
        self.assertIs(is_state(B + ["up"], STATE), True)
        self.assertIs(is_state(B + ["us"], STATE), True)
        self.assertIs(is_state(B + ["us", "up"], STATE), False)

    def test_a_list_that_holds_itself(self):
        value = []
        value.append(value)
        self.assertIs(is_state(["a", "b"], value), False)

    def test_strings_of_another_class_are_strings(self):
        self.assertIs(is_state(["a", "b"], [(Text(""), Text("a"))]), True)


class Indices(unittest.TestCase):
    def test_without_branchings(self):
        for words in WITHOUT_BRANCHINGS:
            result = [answer_of(count_states, words), answer_of(nth_state, words, 0), answer_of(state_rank, words, [])]
            self.assertEqual(result, [1, [], 0])

    def test_against_all_orders(self):
        for words in sets_for_search(33, 25):
            states = slow_states(words)
            self.assertEqual(answer_of(count_states, words), len(states))
            for index, state in enumerate(states):
                self.assertEqual(answer_of(nth_state, words, index), state)
                self.assertEqual(answer_of(state_rank, words, state), index)
                self.assertIs(is_state(words, state), True)

    def test_counts_of_large_sets(self):
        self.assertEqual(count_states(chain_book()), 2 ** 12)
        self.assertEqual(count_states(wide_book()), 26 ** 3)
        self.assertEqual(count_states(list("abcdefgh")), 8)
        letters = "ab"
        words = ["".join(row) for row in itertools.product(letters, repeat=7)][:120]
        self.assertEqual([len(words), count_states(words)], [120, 2 ** 119])

    def test_first_and_last(self):
        for words in many_words():
            rows = slow_branchings(words)
            first = [(text, letters[0]) for text, letters in rows]
            last = [(text, letters[-1]) for text, letters in rows]
            many = count_states(words)
            self.assertEqual([nth_state(words, 0), nth_state(words, many - 1)], [first, last])
            self.assertEqual([state_rank(words, first), state_rank(words, last)], [0, many - 1])

    def test_there_and_back(self):
        source = random.Random(34)
        for words in many_words():
            for index in [source.randrange(count_states(words)) for _ in range(5)]:
                self.assertEqual(state_rank(words, nth_state(words, index)), index)
            for state in sample_states(words, 35):
                self.assertEqual(nth_state(words, state_rank(words, state)), state)

    def test_ascending(self):
        for words in [chain_book()[:7], wide_book()[:40], ["xb", "xa", "yc", "ya", "yb", "z"]]:
            states = [nth_state(words, index) for index in range(min(count_states(words), 700))]
            self.assertEqual(states, sorted(states))
            self.assertEqual(len({tuple(state) for state in states}), len(states))

    def test_do_not_depend_on_the_order_of_the_words(self):
        for words in many_words():
            index = count_states(words) // 3
            self.assertEqual(count_states(words), count_states(sorted(words)))
            self.assertEqual(nth_state(words, index), nth_state(words[::-1], index))
            self.assertEqual(state_rank(words[::-1], nth_state(words, index)), index)

    def test_kinds(self):
        state = nth_state(B, 3)
        self.assertEqual([type(state)] + [type(row) for row in state], [list] + [tuple] * 3)
        self.assertEqual([type(count_states(B)), type(state_rank(B, state))], [int, int])


class StateAfter(unittest.TestCase):
    def test_uses_of_each_word(self):
        for words in many_words():
            for state in sample_states(words, 36)[:4]:
                book = book_of_state(words, state)
                for word in words[:10]:
                    self.assertEqual(answer_of(state_after, words, state, word), slow_state(after_uses(book, word)))

    def test_the_only_word(self):
        for words in WITHOUT_BRANCHINGS[1:]:
            self.assertEqual(answer_of(state_after, words, [], words[0]), [])

    def test_other_branchings_stay(self):
        state = [("", "u"), ("a", "n"), ("i", "t")]
        self.assertEqual(state_after(D, state, "at"), [("", "a"), ("a", "t"), ("i", "t")])
        self.assertEqual(state_after(D, state, "up"), state)
        self.assertEqual(state_after(B, STATE, "cat"), [("", "c"), ("c", "a"), ("ca", "t")])

    def test_a_second_use_changes_nothing(self):
        for words in many_words():
            for word in words[:5]:
                state = state_after(words, state_of(words), word)
                again = state_after(words, state, word)
                self.assertEqual(again, state)
                self.assertIsNot(again, state)


class BookOfState(unittest.TestCase):
    def test_without_branchings(self):
        for words in WITHOUT_BRANCHINGS:
            self.assertEqual(answer_of(book_of_state, words, []), words)

    def test_all_states_of_small_sets(self):
        for words in sets_for_search(37, 25):
            for state in slow_states(words):
                book = answer_of(book_of_state, words, state)
                self.assertEqual([type(book), sorted(book), slow_state(book)], [list, sorted(words), state])

    def test_states_of_large_sets(self):
        for words in many_words():
            for state in sample_states(words, 38):
                book = answer_of(book_of_state, words, state)
                self.assertEqual([sorted(book), slow_state(book)], [sorted(words), state])

    def test_does_not_depend_on_the_order_of_the_words(self):
        for words in many_words():
            for state in sample_states(words, 39):
                self.assertEqual(book_of_state(words, state), book_of_state(words[::-1], state))

    def test_result_is_new(self):
        words = B[:]
        for state in [state_of(words), nth_state(words, 0)]:
            first = book_of_state(words, state)
            book_of_state(words, state).clear()
            self.assertEqual([book_of_state(words, state), words], [first, B])


class WrongValues(unittest.TestCase):
    def test_invalid_words(self):
        for value in NOT_BOOKS:
            with self.subTest(value):
                calls = [(count_states,)]
                calls += [(is_state, state) for state in [[], STATE, None]]
                calls += [(nth_state, index) for index in [0, -1, None, True]]
                calls += [(state_rank, state) for state in [[], STATE, None]]
                calls += [(book_of_state, state) for state in [[], STATE, None]]
                calls += [(state_after, state, word) for state in [[], STATE, None] for word in ["car", "zz", "", None]]
                for function, *others in calls:
                    self.assertIs(type(raised_by(function, value, *others)), errors.InvalidBookError)

    def test_invalid_state(self):
        for value in NOT_STATES_OF_B:
            with self.subTest(value):
                for function in [state_rank, book_of_state]:
                    self.assertIs(type(raised_by(function, B, value)), errors.InvalidStateError)
                for word in ["car", "zz", "", None, "ca"]:
                    self.assertIs(type(raised_by(state_after, B, value, word)), errors.InvalidStateError)

    def test_invalid_state_of_many_words(self):
        for words in many_words():
            for value in not_states_of(words):
                for function in [state_rank, book_of_state]:
                    self.assertIs(type(raised_by(function, words, value)), errors.InvalidStateError)
                self.assertIs(type(raised_by(state_after, words, value, "zz")), errors.InvalidStateError)

    def test_invalid_index(self):
        for words in [B, D, ["a", "b"], full_book()] + WITHOUT_BRANCHINGS:
            many = count_states(words)
            for index in NOT_INTEGERS + [-1, -many, many, many + 1, 10 ** 30 * many, 10 ** 219, -10 ** 219]:
                with self.subTest(words=words, index=index):
                    self.assertIs(type(raised_by(nth_state, words, index)), errors.InvalidNumberError)

    def test_invalid_word(self):
        for value in NOT_WORDS:
            with self.subTest(value):
                for words, state in [(B, STATE), ([], []), (["a"], [])]:
                    self.assertIs(type(raised_by(state_after, words, state, value)), errors.InvalidWordError)

    def test_unknown_word(self):
        for word in ["c", "ca", "cats", "dot", "zz", LONG_WORD]:
            for words, state in [(B, STATE), ([], []), (["b"], []), (full_book(), state_of(full_book()))]:
                with self.subTest(word=word, words=words):
                    self.assertIs(type(raised_by(state_after, words, state, word)), errors.UnknownWordError)


class GeneralRules(unittest.TestCase):
    def test_by_name(self):
        self.assertEqual([is_state(value=STATE, words=B), count_states(words=B)], [True, 8])
        self.assertEqual([nth_state(index=7, words=B), state_rank(state=STATE, words=B)], [STATE, 7])
        self.assertEqual(state_after(word="dog", state=STATE, words=B), STATE)
        self.assertEqual(state_of(book_of_state(state=STATE, words=B)), STATE)

    def test_results_are_new_lists(self):
        state = list(STATE)
        nth_state(B, 7).clear()
        state_after(B, state, "dog").clear()
        self.assertEqual([nth_state(B, 7), state_after(B, state, "dog"), state], [STATE, STATE, STATE])

    def test_changed_lists_are_read_anew(self):
        words, state = B[:], list(STATE)
        calls = [
            lambda: count_states(words), lambda: state_rank(words, state), lambda: is_state(words, state),
            lambda: state_after(words, state, "cow"), lambda: state_of(book_of_state(words, state)),
        ]
        after_use = [("", "c"), ("c", "o"), ("ca", "t")]
        self.assertEqual([call() for call in calls], [8, 7, True, after_use, STATE])
        state[2] = ("ca", "r")
        after_use[2] = ("ca", "r")
        self.assertEqual([call() for call in calls], [8, 6, True, after_use, state])
        words.append("up")
        self.assertEqual([count_states(words), state_rank(words, state), nth_state(words, 6)], [12, 6, state])
        words.append("us")
        self.assertEqual([count_states(words), is_state(words, state)], [24, False])
        self.assertIs(type(raised_by(state_rank, words, state)), errors.InvalidStateError)
        words[0] = "ca"
        self.assertIs(type(raised_by(count_states, words)), errors.InvalidBookError)

    def test_equal_arguments_give_equal_results(self):
        for words in many_words():
            state = state_of(words)
            self.assertEqual(book_of_state(words, state), book_of_state(list(words), list(state)))
            self.assertEqual(state_rank(words, state), state_rank(list(words), list(state)))
            self.assertEqual(len(state), len(branchings(words)))


if __name__ == "__main__":
    unittest.main()
