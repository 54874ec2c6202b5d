"""Branchings, states and alike books: [2], [3] to [5], [6] to [8] and [13]."""

import itertools
import random
import unittest

from ghosttext import errors
from ghosttext.branches import are_alike, branchings, constant_list, state_of, word_that_differs
from ghosttext.suggestions import key_counts
from ghosttext.words import after_uses
from tests.samples import (
    B, C, LONG_WORD, NOT_BOOKS, answer_of, chain_book, full_book, large_books, orders_of, raised_by, random_books,
    sets_for_search, slow_branchings, slow_keys, slow_state, wide_book,
)

OF_ONE_BOOK = [branchings, state_of, constant_list]
OF_TWO_BOOKS = [are_alike, word_that_differs]
D, E = ["an", "at", "in", "it", "up"], ["at", "an", "it", "in", "up"]


def sample_books():
    return [[], ["a"], [LONG_WORD], B, C, D, E] + large_books() + random_books(11, 60)


def shuffled(book, seed):
    other = book[:]
    random.Random(seed).shuffle(other)
    return other


def slow_difference(book, other):
    for word in sorted(book):
        if slow_keys(book, word) != slow_keys(other, word):
            return word
    return None


class DocumentExamples(unittest.TestCase):
    def test_branchings(self):
        self.assertEqual(branchings(B), [("", "cd"), ("c", "ao"), ("ca", "rt")])
        self.assertEqual(state_of(B), [("", "d"), ("c", "o"), ("ca", "t")])
        self.assertEqual(constant_list(B), [1, 2, 3, 4])

    def test_alike(self):
        result = [are_alike(C, ["dog", "cow", "cat", "car"]), are_alike(B, C), word_that_differs(B, C)]
        self.assertEqual(result, [True, False, "car"])


class Branchings(unittest.TestCase):
    def test_without_branchings(self):
        for words in [[], ["a"], [LONG_WORD]]:
            self.assertEqual(answer_of(branchings, words), [])

    def test_of_one_branching(self):
        self.assertEqual(branchings(["b", "a"]), [("", "ab")])
        self.assertEqual(branchings(["cat", "car"]), [("ca", "rt")])
        self.assertEqual(branchings([LONG_WORD, LONG_WORD[:11] + "a"]), [(LONG_WORD[:11], "al")])
        self.assertEqual(branchings(list("hgfedcba")), [("", "abcdefgh")])

    def test_each_length(self):
        expected = [("a" * length, "ab") for length in range(12)]
        self.assertEqual(answer_of(branchings, chain_book()), expected)
        self.assertEqual(answer_of(branchings, chain_book()[::-1]), expected)

    def test_many_branches_behind_one_text(self):
        letters = "abcdefghijklmnopqrstuvwxyz"
        self.assertEqual(answer_of(branchings, wide_book()), [("", letters), ("m", letters), ("q" * 11, letters)])

    def test_ascending_branchings(self):
        words = ["bb", "ba", "abb", "aba", "aa", "c"]
        self.assertEqual(branchings(words), [("", "abc"), ("a", "ab"), ("ab", "ab"), ("b", "ab")])

    def test_against_the_definition(self):
        for book in sample_books() + sets_for_search(12, 40):
            self.assertEqual(answer_of(branchings, book), slow_branchings(book))

    def test_do_not_depend_on_the_order(self):
        for book in sample_books():
            self.assertEqual(branchings(book), branchings(shuffled(book, 13)))

    def test_kinds(self):
        result = branchings(B)
        self.assertEqual([type(result)] + [type(row) for row in result], [list] + [tuple] * 3)
        self.assertEqual([[type(item) for item in row] for row in result], [[str, str]] * 3)


class StateOf(unittest.TestCase):
    def test_without_branchings(self):
        for book in [[], ["a"], [LONG_WORD]]:
            self.assertEqual(answer_of(state_of, book), [])

    def test_latest_branches(self):
        self.assertEqual(state_of(C), [("", "c"), ("c", "a"), ("ca", "r")])
        self.assertEqual([state_of(D), state_of(E)], [
            [("", "u"), ("a", "t"), ("i", "t")], [("", "u"), ("a", "n"), ("i", "n")],
        ])
        self.assertEqual(state_of(chain_book()), [("a" * length, "a") for length in range(12)])
        self.assertEqual(state_of(chain_book()[::-1]), [("a" * length, "b") for length in range(12)])

    def test_against_the_definition(self):
        for book in sample_books():
            self.assertEqual(answer_of(state_of, book), slow_state(book))

    def test_kinds(self):
        result = state_of(B)
        self.assertEqual([type(result)] + [type(row) for row in result], [list] + [tuple] * 3)


class ConstantList(unittest.TestCase):
    def test_edges(self):
        self.assertEqual([answer_of(constant_list, words) for words in [[], ["a"], [LONG_WORD]]], [[], [1], [1]])

    def test_of_large_sets(self):
        self.assertEqual(constant_list(chain_book()), list(range(1, 14)))
        self.assertEqual(constant_list(wide_book()), [1] + [2] * 25 + [3] * 25 + [13] * 25)
        self.assertEqual(constant_list(list("hgfedcba")), [1] + [2] * 7)
        self.assertEqual(constant_list(["zab", "zaa"]), [1, 4])

    def test_are_the_numbers_of_keys_in_any_order(self):
        for book in sample_books():
            numbers = answer_of(constant_list, book)
            for order in [book, book[::-1], shuffled(book, 14), shuffled(book, 15), sorted(book)]:
                self.assertEqual(sorted(keys for _, keys in key_counts(order)), numbers)
                self.assertEqual(constant_list(order), numbers)

    def test_in_all_orders(self):
        for words in sets_for_search(16, 12):
            for order in orders_of(words):
                self.assertEqual(sorted(slow_keys(order, word) for word in order), constant_list(words))


class Alike(unittest.TestCase):
    def test_the_same_book(self):
        for book in sample_books():
            self.assertIs(answer_of(are_alike, book, list(book)), True)
            self.assertIsNone(answer_of(word_that_differs, book, list(book)))

    def test_alike_books_in_other_orders(self):
        for book, other in [(C, ["dog", "cow", "cat", "car"]), (["aa", "ab", "b"], ["aa", "ab", "b"]),
                            (["ba", "aa", "bb", "ab"], ["aa", "ba", "bb", "ab"])]:
            self.assertIs(answer_of(are_alike, book, other), True)
            self.assertIsNone(answer_of(word_that_differs, book, other))

    def test_one_branch_makes_a_difference(self):
        book = full_book()
        word = book[0]
        self.assertIs(answer_of(are_alike, book, after_uses(book, word)), False)
        self.assertIs(answer_of(are_alike, ["xa", "xb", "y"], ["xb", "xa", "y"]), False)
        self.assertEqual(answer_of(word_that_differs, ["xa", "xb", "y"], ["xb", "xa", "y"]), "xa")

    def test_the_smallest_word_that_differs(self):
        self.assertEqual(word_that_differs(D, E), "an")
        self.assertEqual(word_that_differs(D, ["an", "at", "it", "in", "up"]), "in")
        self.assertEqual(word_that_differs(["a", "c", "b"], ["a", "b", "c"]), "b")
        self.assertEqual(word_that_differs(["z", "y", "x"], ["y", "x", "z"]), "x")

    def test_other_words_are_not_alike_but_differ(self):
        for book, other in [([], ["a"]), (["a"], []), (["a"], ["b"]), (B, B[:3]), (B[1:], B), (B, B + ["up"]),
                            (["car", "cat"], ["car", "cats"]), (["car", "dog"], ["cat", "dog"]), (B, D)]:
            with self.subTest(book=book, other=other):
                self.assertIs(answer_of(are_alike, book, other), False)
                self.assertIs(type(raised_by(word_that_differs, book, other)), errors.DifferentWordsError)

    def test_against_the_definition_in_all_orders(self):
        for words in [words for words in sets_for_search(17, 12) if len(words) < 5] + [D]:
            orders = orders_of(words)
            for book, other in itertools.product(orders, orders[::5]):
                alike = slow_state(book) == slow_state(other)
                self.assertIs(are_alike(book, other), alike)
                self.assertEqual(word_that_differs(book, other), slow_difference(book, other))
                self.assertIs(word_that_differs(book, other) is None, alike)

    def test_of_many_words(self):
        for book in sample_books():
            for other in [shuffled(book, 18), book[::-1], after_uses(book, *book[:3]), after_uses(book, *book[-3:])]:
                self.assertIs(answer_of(are_alike, book, other), slow_state(book) == slow_state(other))
                self.assertEqual(answer_of(word_that_differs, book, other), slow_difference(book, other))

    def test_alike_books_stay_alike(self):
        source = random.Random(19)
        book, other = C, ["dog", "cow", "cat", "car"]
        for _ in range(60):
            word = source.choice(C + ["an", "up", "dot"])
            book, other = after_uses(book, word), after_uses(other, word)
            self.assertTrue(are_alike(book, other))
            self.assertEqual(key_counts(book), key_counts(other))

    def test_different_books_may_become_alike(self):
        self.assertEqual([are_alike(B, C), are_alike(after_uses(B, "car"), after_uses(C, "car"))], [False, True])


class WrongValues(unittest.TestCase):
    def test_invalid_books(self):
        for value in NOT_BOOKS:
            with self.subTest(value):
                for function in OF_ONE_BOOK:
                    self.assertIs(type(raised_by(function, value)), errors.InvalidBookError)
                for function in OF_TWO_BOOKS:
                    for args in [(value, B), (B, value), (value, []), ([], value), (value, value)]:
                        self.assertIs(type(raised_by(function, *args)), errors.InvalidBookError)

    def test_invalid_books_before_different_words(self):
        for args in [(["a", "an"], B), (B, ["a", "an"]), (B, B + ["car"]), (B, tuple(B)), (B, None)]:
            self.assertIs(type(raised_by(word_that_differs, *args)), errors.InvalidBookError)


class GeneralRules(unittest.TestCase):
    def test_by_name(self):
        self.assertEqual(branchings(words=["a", "b"]), [("", "ab")])
        self.assertEqual([state_of(book=["a", "b"]), constant_list(words=["a", "b"])], [[("", "b")], [1, 2]])
        self.assertEqual([are_alike(other=B, book=B), are_alike(B, other=C)], [True, False])
        self.assertEqual(word_that_differs(other=D, book=E), "an")

    def test_results_are_new_lists(self):
        words = B[:]
        for function in OF_ONE_BOOK:
            before = list(function(words))
            function(words).clear()
            self.assertEqual(function(words), before)
        self.assertEqual(words, B)

    def test_changed_lists_are_read_anew(self):
        book = B[:]
        before = [branchings(book), state_of(book), constant_list(book), are_alike(book, B), word_that_differs(book, C)]
        book.append(book.pop(0))
        after = [branchings(book), state_of(book), constant_list(book), are_alike(book, B), word_that_differs(book, C)]
        self.assertEqual(before[:3], [slow_branchings(B), slow_state(B), [1, 2, 3, 4]])
        self.assertEqual(after[:3], [slow_branchings(B), slow_state(C), [1, 2, 3, 4]])
        self.assertEqual([before[3:], after[3:]], [[True, "car"], [False, None]])
        book[0] = "up"
        self.assertEqual([branchings(book)[0], state_of(book)[0]], [("", "cdu"), ("", "c")])
        book[0] = "ca"
        for function in OF_ONE_BOOK:
            self.assertIs(type(raised_by(function, book)), errors.InvalidBookError)

    def test_equal_arguments_give_equal_results(self):
        for book in sample_books():
            for function in OF_ONE_BOOK:
                self.assertEqual(function(book), function(list(book)))


if __name__ == "__main__":
    unittest.main()
