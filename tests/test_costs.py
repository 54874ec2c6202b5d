"""Possible numbers of keys, and what they tell: [3] to [5] and [17]."""

import itertools
import math
import random
import unittest

from ghosttext import errors
from ghosttext.branches import constant_list, state_of
from ghosttext.costs import count_books_with, possible_keys, state_from_keys
from ghosttext.states import book_of_state, count_states, nth_state
from ghosttext.suggestions import keys_for
from tests.samples import (
    B, C, LONG_WORD, NOT_BOOKS, NOT_INTEGERS, NOT_WORDS, Row, answer_of, chain_book, common_length, full_book,
    large_books, orders_of, raised_by, random_books, sets_for_search, slow_branchings, slow_keys, slow_state, wide_book,
)

OF_A_WORD = [possible_keys, count_books_with]


def call_of(function, words, word):
    """Return the arguments of a call with a valid last one."""
    return (function, words, word) if function == possible_keys else (function, words, word, 1)


def large_sets():
    return large_books() + random_books(41, 40)


def state_with(words, word, number):
    """Return a state in which another branch than the word's is the latest one only where the number says."""
    state = []
    for text, letters in slow_branchings(words):
        letter = word[len(text)] if word.startswith(text) else letters[0]
        if word.startswith(text) and len(text) + 2 == number:
            letter = letters.replace(letter, "")[0]
        state.append((text, letter))
    return state


def slow_beginning(words, keys):
    """Follow the document; return the beginning that it tells, or "found" if there is a state."""
    number = dict(zip(words, keys))
    chosen = {}
    last = words[0] if len(words) == 1 else None
    for text, letters in sorted(slow_branchings(words), key=lambda row: (-len(row[0]), row[0])):
        sent = []
        for letter in letters:
            group = [word for word in words if word.startswith(text + letter)]
            common = group[0][:min(common_length(group[0], other) for other in group)]
            sent.append(group[0] if len(group) == 1 else chosen[common])
        odd = [word for word in sent if number[word] != len(text) + 2]
        if len(odd) != 1:
            return text
        chosen[text] = last = odd[0]
    return "found" if not words or number[last] == 1 else None


class DocumentExamples(unittest.TestCase):
    def test_possible_keys(self):
        result = [possible_keys(B, "car"), possible_keys(B, "dog")]
        self.assertEqual(result, [[1, 2, 3, 4], [1, 2]])
        self.assertEqual([count_books_with(B, "car", keys) for keys in range(1, 6)], [6, 2, 4, 12, 0])

    def test_state_from_keys(self):
        self.assertEqual(state_from_keys(B, [4, 3, 2, 1]), [("", "d"), ("c", "o"), ("ca", "t")])
        error = raised_by(state_from_keys, B, [4, 2, 2, 1])
        self.assertIs(type(error), errors.ImpossibleKeysError)
        self.assertEqual(error.beginning, "c")


class PossibleKeys(unittest.TestCase):
    def test_the_only_word(self):
        self.assertEqual([answer_of(possible_keys, [word], word) for word in ["a", LONG_WORD]], [[1], [1]])

    def test_against_all_orders(self):
        for words in sets_for_search(42, 25):
            for word in words:
                expected = sorted({slow_keys(order, word) for order in orders_of(words)})
                self.assertEqual(answer_of(possible_keys, words, word), expected)

    def test_of_large_sets(self):
        words = chain_book()
        for length in range(12):
            self.assertEqual(possible_keys(words, words[length]), list(range(1, length + 3)))
        self.assertEqual(possible_keys(words, words[12]), list(range(1, 14)))
        wide = wide_book()
        result = [possible_keys(wide, word) for word in ["z", "ma", "qqqqqqqqqqqa"]]
        self.assertEqual(result, [[1, 2], [1, 2, 3], [1, 2, 13]])

    def test_in_some_book_of_large_sets(self):
        for words in large_sets():
            for word in words[:5]:
                numbers = answer_of(possible_keys, words, word)
                self.assertIn(keys_for(words, word), numbers)
                for index, number in enumerate(numbers):
                    book = book_of_state(words, state_with(words, word, number))
                    self.assertEqual(slow_keys(book, word), number)
                    self.assertEqual(numbers[:index + 1], sorted(numbers[:index + 1]))

    def test_do_not_depend_on_the_order(self):
        for words in large_sets():
            for word in words[:10]:
                self.assertEqual(possible_keys(words, word), possible_keys(sorted(words), word))


class CountBooksWith(unittest.TestCase):
    def test_the_only_word(self):
        for word in ["a", LONG_WORD]:
            result = [answer_of(count_books_with, [word], word, keys) for keys in [1, 2, 3, 13, 14, 10 ** 30]]
            self.assertEqual(result, [1, 0, 0, 0, 0, 0])

    def test_against_all_orders(self):
        for words in sets_for_search(43, 25):
            for word in words:
                numbers = [slow_keys(order, word) for order in orders_of(words)]
                for keys in range(1, 16):
                    self.assertEqual(answer_of(count_books_with, words, word, keys), numbers.count(keys))

    def test_of_large_sets(self):
        words = full_book()
        result = [count_books_with(words, word, 1) for word in words]
        self.assertEqual(result, [math.factorial(119)] * 120)
        wide = wide_book()
        many, orders = len(wide), math.factorial(len(wide))
        result = [count_books_with(wide, "ma", keys) for keys in [1, 2, 3, 4]]
        self.assertEqual(result, [orders // many, orders // 26 - orders // many, orders - orders // 26, 0])
        result = [count_books_with(wide, "q" * 11 + "a", keys) for keys in range(2, 15)]
        self.assertEqual(result, [orders // 26 - orders // many] + [0] * 10 + [orders - orders // 26, 0])

    def test_all_numbers_together_are_all_books(self):
        for words in large_sets():
            for word in words[:10]:
                counts = [answer_of(count_books_with, words, word, keys) for keys in range(1, 15)]
                self.assertEqual(sum(counts), math.factorial(len(words)))
                self.assertEqual([keys + 1 for keys in range(14) if counts[keys] > 0], possible_keys(words, word))

    def test_large_numbers_of_keys(self):
        for keys in [14, 15, 4000, 10 ** 30, 10 ** 31 - 1, 10 ** 40]:
            self.assertEqual(answer_of(count_books_with, B, "car", keys), 0)

    def test_kind(self):
        self.assertEqual([type(count_books_with(B, "car", keys)) for keys in [1, 2, 9]], [int] * 3)


class StateFromKeys(unittest.TestCase):
    def test_without_words_and_with_one(self):
        self.assertEqual([answer_of(state_from_keys, [], []), answer_of(state_from_keys, ["a"], [1])], [[], []])
        for keys in [2, 3, 13, 10 ** 30]:
            for word in ["a", "an", LONG_WORD]:
                error = raised_by(state_from_keys, [word], [keys])
                self.assertEqual([type(error), error.beginning], [errors.ImpossibleKeysError, None])

    def test_numbers_of_all_states(self):
        for words in sets_for_search(44, 25):
            for index in range(count_states(words)):
                state = nth_state(words, index)
                book = book_of_state(words, state)
                keys = [slow_keys(book, word) for word in words]
                self.assertEqual(answer_of(state_from_keys, words, keys), state)

    def test_numbers_of_all_orders(self):
        for order in orders_of(["zaa", "zab", "zba", "y", "x"]):
            keys = [slow_keys(order, word) for word in order]
            self.assertEqual(answer_of(state_from_keys, order, keys), slow_state(order))

    def test_numbers_of_large_books(self):
        source = random.Random(45)
        for book in large_sets():
            words = book[:]
            source.shuffle(words)
            keys = [slow_keys(book, word) for word in words]
            self.assertEqual(answer_of(state_from_keys, words, keys), slow_state(book))

    def test_all_lists_of_small_sets(self):
        for words in [["a"], ["a", "b"], ["car", "cat"], B, ["xa", "xb", "ya", "yb"], ["b", "ab", "aa"], list("cba")]:
            states = {}
            for order in orders_of(words):
                states[tuple(slow_keys(order, word) for word in words)] = slow_state(order)
            for keys in itertools.product(range(1, 6), repeat=len(words)):
                if keys in states:
                    self.assertEqual(answer_of(state_from_keys, words, list(keys)), states[keys])
                    self.assertEqual(slow_beginning(words, keys), "found")
                else:
                    error = raised_by(state_from_keys, words, list(keys))
                    self.assertIs(type(error), errors.ImpossibleKeysError)
                    self.assertEqual(error.beginning, slow_beginning(words, keys))

    def test_one_wrong_number_in_large_books(self):
        source = random.Random(46)
        for book in large_sets():
            for _ in range(6 if book else 0):
                keys = [slow_keys(book, word) for word in book]
                keys[source.randrange(len(keys))] = source.choice([1, 2, 3, 4, 12, 13, 14, 10 ** 30])
                if slow_beginning(book, keys) == "found":
                    self.assertEqual(sorted(keys), constant_list(book))
                    continue
                error = raised_by(state_from_keys, book, keys)
                self.assertIs(type(error), errors.ImpossibleKeysError)
                self.assertEqual(error.beginning, slow_beginning(book, keys))

    def test_longest_branching_first_then_ascending(self):
        words = ["aax", "aay", "abx", "aby", "ba", "bb", "c"]
        for keys, beginning in [
            ([4, 4, 4, 4, 3, 3, 2], "aa"),
            ([4, 1, 4, 4, 3, 3, 2], "ab"),
            ([4, 1, 4, 3, 3, 3, 2], "b"),
            ([4, 1, 4, 1, 3, 3, 2], "a"),
            ([4, 3, 4, 3, 3, 2, 2], "a"),
            ([4, 3, 4, 2, 3, 2, 2], ""),
            ([4, 3, 4, 1, 3, 1, 2], ""),
            ([4, 3, 4, 2, 3, 2, 3], None),
            ([4, 3, 4, 2, 3, 2, 10 ** 30], None),
        ]:
            with self.subTest(keys):
                error = raised_by(state_from_keys, words, keys)
                self.assertEqual([type(error), error.beginning], [errors.ImpossibleKeysError, beginning])
        self.assertEqual(state_from_keys(words, [4, 3, 4, 2, 3, 2, 1]), [
            ("", "c"), ("a", "b"), ("aa", "y"), ("ab", "y"), ("b", "b"),
        ])

    def test_last_number_is_not_one_without_the_empty_branching(self):
        error = raised_by(state_from_keys, ["car", "cat"], [4, 2])
        self.assertEqual([type(error), error.beginning], [errors.ImpossibleKeysError, None])
        self.assertEqual(state_from_keys(["car", "cat"], [4, 1]), [("ca", "t")])
        for keys in [[4, 4], [1, 1], [2, 3]]:
            error = raised_by(state_from_keys, ["car", "cat"], keys)
            self.assertEqual([type(error), error.beginning], [errors.ImpossibleKeysError, "ca"])

    def test_keys_stand_in_the_order_of_the_words(self):
        self.assertEqual(state_from_keys(["a", "b"], [1, 2]), [("", "a")])
        self.assertEqual(state_from_keys(["b", "a"], [1, 2]), [("", "b")])
        self.assertEqual(state_from_keys(B[::-1], [1, 2, 3, 4]), state_of(B))
        self.assertEqual(state_from_keys(C, [4, 3, 2, 1]), state_of(C))

    def test_kinds(self):
        result = state_from_keys(B, [4, 3, 2, 1])
        self.assertEqual([type(result)] + [type(row) for row in result], [list] + [tuple] * 3)


class WrongValues(unittest.TestCase):
    def test_invalid_words(self):
        for value in NOT_BOOKS:
            with self.subTest(value):
                for word in ["car", "zz", "", None]:
                    self.assertIs(type(raised_by(possible_keys, value, word)), errors.InvalidBookError)
                    for keys in [1, 0, None]:
                        self.assertIs(type(raised_by(count_books_with, value, word, keys)), errors.InvalidBookError)
                for keys in [[], [1], [2, 1], None, [0], (1,)]:
                    self.assertIs(type(raised_by(state_from_keys, value, keys)), errors.InvalidBookError)

    def test_invalid_word(self):
        for value in NOT_WORDS:
            with self.subTest(value):
                for words in [[], B, full_book()]:
                    self.assertIs(type(raised_by(possible_keys, words, value)), errors.InvalidWordError)
                    for keys in [1, 0, None]:
                        self.assertIs(type(raised_by(count_books_with, words, value, keys)), errors.InvalidWordError)

    def test_unknown_word(self):
        for word in ["c", "ca", "cats", "dot", "zz", LONG_WORD]:
            for words in [[], B, full_book()]:
                with self.subTest(word=word, words=words):
                    self.assertIs(type(raised_by(possible_keys, words, word)), errors.UnknownWordError)
                    for keys in [1, 5, 0, -1, None, True]:
                        self.assertIs(type(raised_by(count_books_with, words, word, keys)), errors.UnknownWordError)

    def test_invalid_number(self):
        for keys in NOT_INTEGERS + [0, -1, -2, -13, -10 ** 30]:
            with self.subTest(keys):
                for words, word in [(B, "car"), (["a"], "a"), (full_book(), full_book()[0])]:
                    error = raised_by(count_books_with, words, word, keys)
                    self.assertIs(type(error), errors.InvalidNumberError)

    def test_invalid_keys(self):
        good = [4, 3, 2, 1]
        wrong = [
            None, True, False, 0, 1, 4321, 2.5, "", "4321", b"4321", (), tuple(good), {}, {"car": 4}, set(good),
            object(), range(1, 5), iter(good), Row(good), [], [[]], [good], good[:3], good[1:], good + [1], good + good,
            ["4321"], ["4", "3", "2", "1"], [4, 3, 2, 0], [0, 3, 2, 1], [4, -3, 2, 1], [-10 ** 30, 3, 2, 1],
        ]
        wrong += [[4, 3, value, 1] for value in NOT_INTEGERS] + [[value] + good[1:] for value in NOT_INTEGERS]
        for value in wrong:
            with self.subTest(value):
                self.assertIs(type(raised_by(state_from_keys, B, value)), errors.InvalidKeysError)

    def test_keys_of_other_lengths(self):
        for words, keys in [([], [1]), ([], None), ([], ()), ([], ""), (["a"], []), (["a"], [1, 2]), (["a"], [True]),
                            (["a"], 1), (["a"], [0]), (["a", "b"], [2]), (full_book(), [1] * 119), (["a"], [None])]:
            self.assertIs(type(raised_by(state_from_keys, words, keys)), errors.InvalidKeysError)


class GeneralRules(unittest.TestCase):
    def test_by_name(self):
        self.assertEqual(possible_keys(word="dog", words=B), [1, 2])
        self.assertEqual(count_books_with(keys=2, word="car", words=B), 2)
        self.assertEqual(state_from_keys(keys=[4, 3, 2, 1], words=B), state_of(B))

    def test_results_are_new_lists(self):
        words, keys = B[:], [4, 3, 2, 1]
        possible_keys(words, "car").clear()
        state_from_keys(words, keys).clear()
        self.assertEqual([possible_keys(words, "car"), state_from_keys(words, keys)], [[1, 2, 3, 4], state_of(B)])
        self.assertEqual([words, keys], [B, [4, 3, 2, 1]])

    def test_changed_lists_are_read_anew(self):
        words, keys = B[:], [4, 3, 2, 1]
        self.assertEqual([possible_keys(words, "dog"), count_books_with(words, "dog", 1)], [[1, 2], 6])
        self.assertEqual(state_from_keys(words, keys), state_of(B))
        words[2] = "do" + "t"
        self.assertEqual([possible_keys(words, "dog"), count_books_with(words, "dog", 1)], [[1, 2, 4], 6])
        keys[2] = 9
        self.assertEqual(raised_by(state_from_keys, words, keys).beginning, "do")
        keys[2], keys[1] = 4, 2
        self.assertEqual(state_from_keys(words, keys), [("", "d"), ("ca", "t"), ("do", "g")])
        words.pop()
        for function in OF_A_WORD:
            self.assertIs(type(raised_by(*call_of(function, words, "dog"))), errors.UnknownWordError)
        self.assertIs(type(raised_by(state_from_keys, words, keys)), errors.InvalidKeysError)
        words[0] = "ca"
        for function in OF_A_WORD:
            self.assertIs(type(raised_by(*call_of(function, words, "dog"))), errors.InvalidBookError)

    def test_equal_arguments_give_equal_results(self):
        for words in large_sets():
            keys = [slow_keys(words, word) for word in words]
            self.assertEqual(state_from_keys(words, keys), state_from_keys(list(words), list(keys)))


if __name__ == "__main__":
    unittest.main()
