"""Suggestions and numbers of keys: [3] to [7], [9], [11] and [12]."""

import itertools
import random
import unittest

from ghosttext import errors
from ghosttext.suggestions import blocker, key_counts, key_text, keys_for, steps, suggestion
from ghosttext.words import after_uses, clashing_pair
from tests.samples import (
    B, C, LONG_WORD, NOT_BOOKS, NOT_TEXTS, NOT_WORDS, TOO_LONG_WORD, answer_of, chain_book, common_length, full_book,
    new_word, raised_by, random_books, slow_steps, slow_suggestion,
)

ENTRIES = [keys_for, key_text, steps]


def slow_blocker(book, word):
    others = [slow_suggestion(book, word[:length]) for length in range(len(word) + 1)]
    others = [other for other in others if other != word]
    return others[-1] if others else None


def sample_books():
    return [[], ["a"], [LONG_WORD], B, C, full_book(), chain_book(), chain_book()[::-1]] + random_books(7, 60)


class DocumentExamples(unittest.TestCase):
    def test_suggestions(self):
        self.assertEqual([suggestion(B, ""), suggestion(B, "ca"), suggestion(B, "x")], ["dog", "cat", None])

    def test_keys(self):
        self.assertEqual([keys_for(B, word) for word in ["car", "cat", "cow", "dog", "dot"]], [4, 3, 2, 1, 4])

    def test_key_texts_and_steps(self):
        result = [key_text(B, "cow"), key_text(B, "dot"), list(steps(B, "cat"))]
        self.assertEqual(result, ["c+", "dot+", [("", "dog"), ("c", "cow"), ("ca", "cat")]])
        self.assertEqual(list(steps(B, "dot")), [("", "dog"), ("d", "dog"), ("do", "dog"), ("dot", None)])

    def test_counts_and_blockers(self):
        result = [key_counts(B), blocker(B, "car"), blocker(B, "cow"), blocker(B, "dog")]
        self.assertEqual(result, [[("car", 4), ("cat", 3), ("cow", 2), ("dog", 1)], "cat", "dog", None])

    def test_branchings_of_the_book_of_the_examples(self):
        orders = [list(order) for order in itertools.permutations(B)]
        texts = sorted({word[:length] for word in B for length in range(len(word) + 1)})
        branchings = [text for text in texts if len({suggestion(order, text)[:len(text) + 1] for order in orders}) > 1]
        self.assertEqual(branchings, ["", "c", "ca"])


class Suggestion(unittest.TestCase):
    def test_empty_book(self):
        for text in ["", "a", LONG_WORD]:
            self.assertIsNone(answer_of(suggestion, [], text))

    def test_empty_text_gives_the_last_word(self):
        for book in [B, C, full_book(), chain_book(), ["a"]]:
            self.assertEqual(answer_of(suggestion, book, ""), book[-1])

    def test_whole_word(self):
        for book in sample_books():
            for word in book:
                self.assertEqual(answer_of(suggestion, book, word), word)

    def test_no_word_begins_with_the_text(self):
        for text in ["x", "cax", "cars", "dogs", "dogdogdogdog", "og", "at"]:
            self.assertIsNone(answer_of(suggestion, B, text))

    def test_last_of_the_words_that_begin_with_the_text(self):
        self.assertEqual([suggestion(C, "c"), suggestion(C, "ca"), suggestion(C, "co")], ["car", "car", "cow"])
        self.assertEqual([suggestion(B, "c"), suggestion(B, "d"), suggestion(B, "car")], ["cow", "dog", "car"])

    def test_against_the_definition(self):
        for book in sample_books():
            texts = {word[:length] for word in book for length in range(len(word) + 1)} | {"", "x", "aab"}
            for text in sorted(texts):
                self.assertEqual(suggestion(book, text), slow_suggestion(book, text))

    def test_invalid_book(self):
        for value in NOT_BOOKS:
            with self.subTest(value):
                for text in ["", "car", "Car", None, TOO_LONG_WORD]:
                    self.assertIs(type(raised_by(suggestion, value, text)), errors.InvalidBookError)

    def test_invalid_text(self):
        for value in NOT_TEXTS:
            with self.subTest(value):
                for book in [[], B]:
                    self.assertIs(type(raised_by(suggestion, book, value)), errors.InvalidTextError)

    def test_texts_of_twelve_and_thirteen_letters(self):
        self.assertEqual(suggestion([LONG_WORD], LONG_WORD), LONG_WORD)
        self.assertIs(type(raised_by(suggestion, [LONG_WORD], TOO_LONG_WORD)), errors.InvalidTextError)


class Entering(unittest.TestCase):
    def test_last_word_needs_one_key(self):
        for book in [B, C, full_book(), ["a"], [LONG_WORD], chain_book()]:
            word = book[-1]
            self.assertEqual([keys_for(book, word), key_text(book, word)], [1, "+"])
            self.assertEqual(answer_of(steps, book, word), [("", word)])

    def test_new_word_needs_its_length_plus_one(self):
        for word in ["a", "an", LONG_WORD]:
            self.assertEqual([keys_for([], word), key_text([], word)], [len(word) + 1, word + "+"])
            self.assertEqual(answer_of(steps, [], word)[-1], (word, None))
            self.assertEqual(len(answer_of(steps, [], word)), len(word) + 1)
        self.assertEqual([keys_for(B, "cap"), key_text(B, "cap")], [4, "cap+"])
        self.assertEqual(answer_of(steps, B, "cap"), [("", "dog"), ("c", "cow"), ("ca", "cat"), ("cap", None)])

    def test_long_common_beginnings(self):
        book = [LONG_WORD[:11] + "x", LONG_WORD]
        self.assertEqual([keys_for(book, book[0]), keys_for(book, LONG_WORD)], [13, 1])
        self.assertEqual(key_text(book, book[0]), LONG_WORD[:11] + "x+")
        expected = [(LONG_WORD[:length], LONG_WORD) for length in range(12)] + [(book[0], book[0])]
        self.assertEqual(answer_of(steps, book, book[0]), expected)
        self.assertEqual(blocker(book, book[0]), LONG_WORD)

    def test_each_number_of_keys(self):
        book = chain_book()
        self.assertEqual([keys_for(book, word) for word in book], list(range(2, 14)) + [1])
        self.assertEqual([keys_for(book[::-1], word) for word in book[::-1]], list(range(13, 0, -1)))

    def test_a_use_makes_the_next_one_cheap(self):
        for word in B + ["an", LONG_WORD]:
            self.assertEqual(keys_for(after_uses(B, word), word), 1)

    def test_against_the_definition(self):
        source = random.Random(8)
        for book in sample_books():
            for word in book + [new_word(source, book)]:
                if word is None:
                    continue
                rows = slow_steps(book, word)
                self.assertEqual(answer_of(steps, book, word), rows)
                self.assertEqual(answer_of(keys_for, book, word), len(rows))
                self.assertEqual(answer_of(key_text, book, word), rows[-1][0] + "+")

    def test_longest_common_beginning_with_a_later_word(self):
        for book in sample_books():
            for index, word in enumerate(book):
                later = [common_length(word, other) + 2 for other in book[index + 1:]]
                self.assertEqual(keys_for(book, word), max(later, default=1))

    def test_kinds(self):
        self.assertIs(type(keys_for(B, "car")), int)
        self.assertIs(type(key_text(B, "car")), str)
        for row in steps(B, "car"):
            self.assertIs(type(row), tuple)

    def test_invalid_book(self):
        for value in NOT_BOOKS:
            with self.subTest(value):
                for function in ENTRIES:
                    for word in ["car", "c", "carts", "", None]:
                        self.assertIs(type(raised_by(function, value, word)), errors.InvalidBookError)

    def test_invalid_word(self):
        for value in NOT_WORDS:
            with self.subTest(value):
                for function in ENTRIES:
                    for book in [[], B]:
                        self.assertIs(type(raised_by(function, book, value)), errors.InvalidWordError)

    def test_clashes(self):
        for book, word, pair in [
            (B, "c", ("c", "car")),
            (B, "ca", ("ca", "car")),
            (["cow", "cat", "car"], "c", ("c", "car")),
            (B, "cart", ("car", "cart")),
            (B, "do", ("do", "dog")),
            (["into", "inn"], "in", ("in", "inn")),
            ([LONG_WORD], "a", ("a", LONG_WORD)),
            (["a"], LONG_WORD, ("a", LONG_WORD)),
        ]:
            for function in ENTRIES:
                with self.subTest(function=function.__name__, book=book, word=word):
                    error = raised_by(function, book, word)
                    self.assertIs(type(error), errors.PrefixError)
                    self.assertEqual(error.pair, pair)
                    self.assertIs(type(error.pair), tuple)
                    self.assertEqual(error.pair, clashing_pair(book + [word]))


class Steps(unittest.TestCase):
    def test_may_be_iterated_again(self):
        for _ in range(3):
            self.assertEqual(list(steps(B, "cat")), [("", "dog"), ("c", "cow"), ("ca", "cat")])

    def test_may_be_iterated_within_another_iteration(self):
        pairs = [(one, two) for one, _ in steps(B, "car") for two, _ in steps(B, "cow")]
        self.assertEqual(pairs, [(one, two) for one in ["", "c", "ca", "car"] for two in ["", "c"]])
        first, second = iter(steps(B, "car")), iter(steps(B, "car"))
        taken = [next(first), next(first), next(second), next(first), next(second)]
        self.assertEqual([text for text, _ in taken], ["", "c", "", "ca", "c"])

    def test_may_be_left_early(self):
        for row in steps(B, "car"):
            self.assertEqual(row, ("", "dog"))
            break
        self.assertEqual(len(list(steps(B, "car"))), 4)

    def test_yields_one_result_after_another(self):
        rows = iter(steps(B, "cow"))
        self.assertEqual([next(rows), next(rows), next(rows, None)], [("", "dog"), ("c", "cow"), None])

    def test_book_that_is_changed_during_the_iteration(self):
        book = B[:]
        seen = []
        for row in steps(book, "car"):
            seen.append(row)
            book.append("c" + "xyzw"[len(seen) - 1])
        self.assertEqual(seen, list(steps(B, "car")))


class KeyCounts(unittest.TestCase):
    def test_empty_book(self):
        self.assertEqual(answer_of(key_counts, []), [])

    def test_ascending_words(self):
        self.assertEqual(answer_of(key_counts, ["up"]), [("up", 1)])
        self.assertEqual(answer_of(key_counts, C), [("car", 1), ("cat", 4), ("cow", 3), ("dog", 2)])
        self.assertEqual(key_counts(["b", "ab", "aa"]), [("aa", 1), ("ab", 3), ("b", 2)])

    def test_against_the_definition(self):
        for book in sample_books():
            expected = [(word, len(slow_steps(book, word))) for word in sorted(book)]
            self.assertEqual(answer_of(key_counts, book), expected)

    def test_more_words_than_the_limit(self):
        book = full_book(130)
        self.assertEqual(len(key_counts(book)), 130)
        self.assertEqual([keys_for(book, book[-1]), suggestion(book, "abc")], [1, book[-1]])

    def test_sorted_numbers_do_not_depend_on_the_order(self):
        for book in sample_books():
            source = random.Random(9)
            other = book[:]
            source.shuffle(other)
            numbers = sorted(keys for _, keys in key_counts(book))
            self.assertEqual(numbers, sorted(keys for _, keys in key_counts(other)))

    def test_kinds(self):
        result = key_counts(B)
        self.assertEqual([type(result)] + [type(row) for row in result], [list] + [tuple] * 4)

    def test_invalid_book(self):
        for value in NOT_BOOKS:
            with self.subTest(value):
                self.assertIs(type(raised_by(key_counts, value)), errors.InvalidBookError)


class Blocker(unittest.TestCase):
    def test_last_word_has_none(self):
        for book in [B, C, full_book(), ["a"], chain_book()]:
            self.assertIsNone(answer_of(blocker, book, book[-1]))

    def test_longest_beginning_counts(self):
        self.assertEqual([blocker(C, "cat"), blocker(C, "cow"), blocker(C, "dog")], ["car", "car", "car"])
        self.assertEqual(blocker(["cat", "car", "cow", "dog"], "cat"), "car")
        self.assertEqual(blocker(["cat", "car", "cow", "dog"], "car"), "cow")

    def test_against_the_definition(self):
        for book in sample_books():
            for word in book:
                self.assertEqual(answer_of(blocker, book, word), slow_blocker(book, word))

    def test_invalid_book(self):
        for value in NOT_BOOKS:
            with self.subTest(value):
                for word in ["car", "zz", "", None]:
                    self.assertIs(type(raised_by(blocker, value, word)), errors.InvalidBookError)

    def test_invalid_word(self):
        for value in NOT_WORDS:
            with self.subTest(value):
                for book in [[], B]:
                    self.assertIs(type(raised_by(blocker, book, value)), errors.InvalidWordError)

    def test_unknown_word(self):
        for word in ["dot", "a", "c", "ca", "carts", "cars", LONG_WORD]:
            for book in [[], B, full_book()]:
                with self.subTest(word=word, book=book):
                    self.assertIs(type(raised_by(blocker, book, word)), errors.UnknownWordError)


class GeneralRules(unittest.TestCase):
    def test_by_name(self):
        self.assertEqual(suggestion(book=B, text="c"), "cow")
        self.assertEqual(suggestion(text="c", book=B), "cow")
        self.assertEqual([keys_for(word="cow", book=B), key_text(word="cow", book=B)], [2, "c+"])
        self.assertEqual(list(steps(word="cow", book=B)), [("", "dog"), ("c", "cow")])
        self.assertEqual([key_counts(book=["a"]), blocker(word="cow", book=B)], [[("a", 1)], "dog"])

    def test_results_are_new_lists(self):
        book = B[:]
        key_counts(book).clear()
        self.assertEqual(key_counts(book), [("car", 4), ("cat", 3), ("cow", 2), ("dog", 1)])
        self.assertEqual(book, B)

    def test_changed_lists_are_read_anew(self):
        book = B[:]
        before = [suggestion(book, ""), keys_for(book, "car"), key_text(book, "car"), blocker(book, "car")]
        self.assertEqual(before, ["dog", 4, "car+", "cat"])
        book.append(book.pop(0))
        after = [suggestion(book, ""), keys_for(book, "car"), key_text(book, "car"), blocker(book, "car")]
        self.assertEqual(after, ["car", 1, "+", None])
        self.assertEqual([key_counts(book)[0], list(steps(book, "car"))], [("car", 1), [("", "car")]])
        book[0] = "cow"
        for function in ENTRIES + [suggestion, blocker]:
            self.assertIs(type(raised_by(function, book, "car")), errors.InvalidBookError)
        self.assertIs(type(raised_by(key_counts, book)), errors.InvalidBookError)

    def test_equal_arguments_give_equal_results(self):
        for book in sample_books():
            self.assertEqual(key_counts(book), key_counts(list(book)))

    def test_errors_change_nothing(self):
        book = B[:]
        for word in ["ca", "", None]:
            for function in ENTRIES + [blocker]:
                raised_by(function, book, word)
        self.assertEqual([book, key_counts(book)], [B, key_counts(B)])


if __name__ == "__main__":
    unittest.main()
