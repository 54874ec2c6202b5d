"""The books that are alike to a book: [3] to [5], [8] and [18]."""

import itertools
import math
import random
import unittest

from ghosttext import errors
from ghosttext.branches import are_alike
from ghosttext.orders import alike_rank, count_alike, nth_alike
from ghosttext.suggestions import key_counts
from tests.samples import (
    B, C, LONG_WORD, NOT_BOOKS, NOT_INTEGERS, Row, answer_of, caterpillar_book, chain_book, count_by_shuffles,
    full_book, large_books, orders_of, raised_by, random_books, sets_for_search, slow_state,
)

ALONE = [[], ["a"], [LONG_WORD], ["a", "b"], ["b", "a"], ["car", "cat"], B]


def many_books():
    return large_books() + [caterpillar_book()] + random_books(61, 40)


def some_indices(many, seed):
    """Return the first, the last and some other indexes."""
    source = random.Random(seed)
    return [0, many - 1, many // 2] + [source.randrange(many) for _ in range(3)]


def slow_alike(book):
    return sorted(order for order in orders_of(book) if slow_state(order) == slow_state(book))


def order_by_factorials(words, index):
    """Return the order with this index among all orders of the words."""
    rest, order = sorted(words), []
    while rest:
        place, index = divmod(index, math.factorial(len(rest) - 1))
        order.append(rest.pop(place))
    return order


class DocumentExamples(unittest.TestCase):
    def test_all(self):
        result = [count_alike(["car", "cat", "cow", "dog"]), count_alike(C), nth_alike(C, 5)]
        self.assertEqual(result, [1, 6, ["dog", "cow", "cat", "car"]])
        self.assertEqual(alike_rank(["dog", "cat", "cow", "car"]), 4)


class AlikeBooks(unittest.TestCase):
    def test_books_that_are_alike_to_no_other_one(self):
        for book in ALONE:
            result = [answer_of(count_alike, book), answer_of(nth_alike, book, 0), answer_of(alike_rank, book)]
            self.assertEqual(result, [1, book, 0])

    def test_against_all_orders(self):
        for words in sets_for_search(62, 25):
            for book in [words, words[::-1], sorted(words), words[2:] + words[:2]]:
                expected = slow_alike(book)
                self.assertEqual(answer_of(count_alike, book), len(expected))
                self.assertEqual(answer_of(alike_rank, book), expected.index(book))
                for index, order in enumerate(expected):
                    self.assertEqual(answer_of(nth_alike, book, index), order)
                    self.assertEqual([count_alike(order), alike_rank(order)], [len(expected), index])

    def test_all_orders_of_some_words(self):
        for order in orders_of(["zaa", "zab", "zba", "y", "x"]):
            expected = slow_alike(order)
            self.assertEqual([count_alike(order), alike_rank(order)], [len(expected), expected.index(order)])
            self.assertEqual([nth_alike(order, index) for index in range(len(expected))], expected)

    def test_counts_of_large_books(self):
        for book in many_books():
            self.assertEqual(answer_of(count_alike, book), count_by_shuffles(book))
        self.assertEqual(count_alike(chain_book()), math.factorial(12))
        self.assertEqual(count_alike(chain_book()[::-1]), 1)

    def test_there_and_back(self):
        for book in many_books():
            for index in some_indices(count_alike(book), 63):
                other = answer_of(nth_alike, book, index)
                self.assertEqual([sorted(other), slow_state(other)], [sorted(book), slow_state(book)])
                self.assertEqual(answer_of(alike_rank, other), index)
            self.assertEqual(nth_alike(book, alike_rank(book)), book)

    def test_ascending(self):
        for book in many_books():
            many = count_alike(book)
            for start in some_indices(many, 64):
                books = [nth_alike(book, index) for index in range(start, min(many, start + 5))]
                self.assertTrue(all(one < two for one, two in zip(books, books[1:])))

    def test_indexes_of_many_digits(self):
        book = caterpillar_book()
        many = count_alike(book)
        self.assertEqual([len(book), many, len(str(many))], [120, math.factorial(119), 197])
        for index in some_indices(many, 65):
            expected = order_by_factorials(book[:-1], index) + book[-1:]
            self.assertEqual(answer_of(nth_alike, book, index), expected)
            self.assertEqual(answer_of(alike_rank, expected), index)

    def test_only_the_state_counts(self):
        source = random.Random(66)
        for book in random_books(67, 40):
            other = nth_alike(book, source.randrange(count_alike(book)))
            self.assertEqual([count_alike(other), key_counts(other)], [count_alike(book), key_counts(book)])
            self.assertTrue(are_alike(book, other))
            self.assertEqual(nth_alike(other, 0), nth_alike(book, 0))

    def test_more_words_than_the_limit(self):
        book = full_book(130)
        index = count_alike(book) - 1
        self.assertEqual(alike_rank(nth_alike(book, index)), index)

    def test_kinds(self):
        result = nth_alike(C, 2)
        self.assertEqual([type(result)] + [type(word) for word in result], [list] + [str] * 4)
        self.assertEqual([type(count_alike(C)), type(alike_rank(C))], [int, int])
        self.assertEqual([type(count_alike([])), type(alike_rank([])), type(nth_alike([], 0))], [int, int, list])


class WrongValues(unittest.TestCase):
    def test_invalid_book(self):
        for value in NOT_BOOKS:
            with self.subTest(value):
                for function in [count_alike, alike_rank]:
                    self.assertIs(type(raised_by(function, value)), errors.InvalidBookError)
                for index in [0, 1, -1, None, True]:
                    self.assertIs(type(raised_by(nth_alike, value, index)), errors.InvalidBookError)

    def test_invalid_index(self):
        for book in ALONE + [C, full_book(), caterpillar_book()]:
            many = count_alike(book)
            for index in NOT_INTEGERS + [-1, -many, many, many + 1, 10 ** 219, -10 ** 219]:
                with self.subTest(book=book, index=index):
                    self.assertIs(type(raised_by(nth_alike, book, index)), errors.InvalidNumberError)
            self.assertEqual(len(nth_alike(book, many - 1)), len(book))


class GeneralRules(unittest.TestCase):
    def test_by_name(self):
        self.assertEqual([count_alike(book=C), alike_rank(book=C)], [6, 0])
        self.assertEqual(nth_alike(index=5, book=C), ["dog", "cow", "cat", "car"])

    def test_results_are_new_lists(self):
        for book in ALONE + [C, C[::-1]]:
            before = list(book)
            rank = alike_rank(book)
            nth_alike(book, rank).append("zz")
            self.assertEqual([book, nth_alike(book, rank)], [before, before])

    def test_changed_lists_are_read_anew(self):
        book = C[:]
        self.assertEqual([count_alike(book), alike_rank(book)], [6, 0])
        book.append(book.pop(0))
        self.assertEqual(book, ["cow", "dog", "car", "cat"])
        self.assertEqual([count_alike(book), alike_rank(book)], [6, 3])
        book.pop(1)
        self.assertEqual([count_alike(book), alike_rank(book), nth_alike(book, 0)], [2, 1, ["car", "cow", "cat"]])
        book[1] = "ca"
        for call in [(count_alike, book), (alike_rank, book), (nth_alike, book, 0)]:
            self.assertIs(type(raised_by(*call)), errors.InvalidBookError)

    def test_only_lists_are_books(self):
        for value in [tuple(C), Row(C), iter(C), dict.fromkeys(C)]:
            for call in [(count_alike, value), (alike_rank, value), (nth_alike, value, 0)]:
                self.assertIs(type(raised_by(*call)), errors.InvalidBookError)

    def test_equal_arguments_give_equal_results(self):
        for book, index in itertools.product([C, caterpillar_book()], [0, 3]):
            self.assertEqual(nth_alike(book, index), nth_alike(list(book), index))


if __name__ == "__main__":
    unittest.main()
