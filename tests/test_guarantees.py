"""What holds over the whole program: [1], [2] and [9], over drawn books and histories."""

import itertools
import random
import unittest

from ghosttext.branches import are_alike, branchings, constant_list, state_of, word_that_differs
from ghosttext.field import Field
from ghosttext.histories import keys_of_rounds, keys_of_uses, round_keys, total_keys
from ghosttext.moves import count_shortest, fewest_uses, is_shortest, needed_words, nth_shortest
from ghosttext.orders import alike_rank, count_alike, nth_alike
from ghosttext.states import book_of_state, count_states, nth_state
from ghosttext.suggestions import key_counts, key_text, keys_for
from ghosttext.text import format_words, parse_words
from ghosttext.words import after_uses, book_after, is_book
from tests.samples import B, large_books, orders_of, random_books, sets_for_search


def books():
    return large_books() + random_books(101, 40) + sets_for_search(102, 10)


def numbers_of(book):
    return [keys for _, keys in key_counts(book)]


def drawn_histories():
    """Return histories whose words are drawn from the words of a book."""
    source = random.Random(103)
    rows = [[]]
    for book in books():
        for many in [1, 5, 30, 200]:
            rows.append([source.choice(book) for _ in range(many if book else 0)])
    return rows


def drawn_pairs():
    """Return pairs of books with the same words; some are alike."""
    source = random.Random(104)
    pairs = []
    for book in books():
        pairs.append((book, source.sample(book, len(book))))
        pairs.append((book, nth_alike(book, source.randrange(count_alike(book)))))
        pairs.append((book, book_of_state(book, nth_state(book, source.randrange(count_states(book))))))
        if book:
            pairs.append((book, after_uses(book, source.choice(book))))
    return pairs


class Guarantees(unittest.TestCase):
    def test_sorted_numbers_of_keys_depend_on_the_words_only(self):
        for book, other in drawn_pairs():
            self.assertEqual(sorted(numbers_of(book)), sorted(numbers_of(other)))
            self.assertEqual(sorted(numbers_of(book)), constant_list(book))
        for words in sets_for_search(105, 5):
            self.assertEqual(len({tuple(sorted(numbers_of(order))) for order in orders_of(words)}), 1)

    def test_a_reversed_history_needs_as_many_keys(self):
        for history in drawn_histories():
            self.assertEqual(total_keys(history), total_keys(history[::-1]))
        for length in range(6):
            for history in itertools.product(["an", "at", "i"], repeat=length):
                self.assertEqual(total_keys(list(history)), total_keys(list(history)[::-1]))

    def test_alike_books_are_those_that_need_the_same_keys(self):
        for book, other in drawn_pairs():
            same = numbers_of(book) == numbers_of(other)
            self.assertIs(are_alike(book, other), same)
            self.assertEqual(word_that_differs(book, other) is None, same)

    def test_alike_books_behave_alike_for_ever(self):
        source = random.Random(106)
        for book, other in drawn_pairs():
            uses = [source.choice(book) for _ in range(30 if book else 0)]
            if are_alike(book, other):
                self.assertEqual(keys_of_uses(uses, start=book), keys_of_uses(uses, start=other))
                self.assertEqual(numbers_of(after_uses(book, *uses)), numbers_of(after_uses(other, *uses)))
            else:
                word = word_that_differs(book, other)
                self.assertNotEqual(keys_of_uses([word], start=book), keys_of_uses([word], start=other))

    def test_all_later_rounds_need_the_same_number_of_keys(self):
        for history in drawn_histories():
            book, totals = [], []
            for _ in range(4):
                totals.append(total_keys(history, start=book))
                book = after_uses(book, *history)
            self.assertEqual(totals[1:], totals[1:2] * 3)
            self.assertEqual(round_keys(history), tuple(totals[:2]))
            self.assertEqual(keys_of_rounds(history, 4), sum(totals))
            self.assertEqual(keys_of_rounds(history, 10 ** 30), totals[0] + (10 ** 30 - 1) * totals[1])

    def test_shortest_lists_are_orders_of_the_same_different_words(self):
        source = random.Random(107)
        for book, goal in drawn_pairs():
            needed = needed_words(book, goal)
            self.assertEqual([len(needed), needed], [fewest_uses(book, goal), sorted(set(needed))])
            many = count_shortest(book, goal)
            for index in [0, many - 1, source.randrange(many)]:
                uses = nth_shortest(book, goal, index)
                self.assertEqual(sorted(uses), needed)
                self.assertTrue(are_alike(after_uses(book, *uses), goal))

    def test_shortest_lists_against_all_orders_and_all_shorter_lists(self):
        for words in [B, ["an", "at", "in", "it", "up"], ["zaa", "zab", "zba", "y"]]:
            for goal in orders_of(words)[::5]:
                needed = needed_words(words, goal)
                orders = [order for order in orders_of(needed) if are_alike(after_uses(words, *order), goal)]
                self.assertEqual(sorted(orders), [nth_shortest(words, goal, index) for index in range(len(orders))])
                self.assertEqual(len(orders), count_shortest(words, goal))
                for uses in itertools.product(words, repeat=max(len(needed) - 1, 0)):
                    if len(uses) < len(needed):
                        self.assertFalse(are_alike(after_uses(words, *uses), goal))
                        self.assertFalse(is_shortest(words, goal, list(uses)))


class WholeProgram(unittest.TestCase):
    def test_the_book_of_the_examples(self):
        self.assertEqual([text for text, _ in branchings(["car", "cat", "cow", "dog"])], ["", "c", "ca"])

    def test_a_field_needs_the_keys_that_are_told(self):
        for book in large_books() + random_books(108, 20):
            field = Field.read(format_words(book))
            for word in book[::3]:
                keys = key_text(field.book, word)
                before = field.pressed
                self.assertEqual(len(keys), keys_for(field.book, word))
                self.assertEqual(field.press(keys), [word])
                self.assertEqual(field.pressed - before, len(keys))

    def test_a_field_that_enters_a_history_needs_its_total_keys(self):
        for history in drawn_histories():
            field = Field()
            for word in history:
                field.press(key_text(field.book, word))
            self.assertEqual([field.entered, field.book], [history, book_after(history)])
            self.assertEqual(field.pressed, total_keys(history))

    def test_results_may_be_passed_back(self):
        for book in books():
            order = nth_alike(book, count_alike(book) - 1)
            self.assertTrue(is_book(order))
            self.assertEqual(alike_rank(parse_words(format_words(order))), count_alike(order) - 1)
            self.assertEqual(state_of(order), state_of(book))
            uses = nth_shortest(order, order[::-1], 0)
            self.assertEqual(state_of(after_uses(order, *uses)), state_of(order[::-1]))


if __name__ == "__main__":
    unittest.main()
