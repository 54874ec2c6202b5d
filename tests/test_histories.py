"""What histories need: [2], [3] to [5], [14] and [15]."""

import random
import unittest

from ghosttext import errors
from ghosttext.histories import (
    keys_of_rounds, keys_of_uses, obstacle, round_keys, saved_keys, steady_keys, total_keys,
)
from ghosttext.words import after_uses, book_after, clashing_pair
from tests.samples import (
    B, C, LONG_WORD, NOT_BOOKS, NOT_HISTORIES, NOT_INTEGERS, answer_of, chain_book, common_length, full_book,
    large_books, orders_of, raised_by, random_books, sets_for_search, slow_play, wide_book,
)

H = ["dog", "cat", "dog", "dog", "cow", "cat"]
PLAYED = [keys_of_uses, total_keys, saved_keys]
LARGE = 10 ** 30


def sample_histories():
    """Return histories of up to 200 uses, some of few words and some of many."""
    source = random.Random(21)
    rows = [[], ["a"], ["a"] * 200, [LONG_WORD], H, H[::-1], B + C, full_book(100) + full_book(100)[::-1]]
    for book in large_books() + random_books(22, 50):
        words = book[:source.choice([2, 3, 10, 120])]
        rows.append([source.choice(words) for _ in range(source.randint(0, 200) if words else 0)])
    return rows


def slow_numbers(history, start=()):
    return slow_play(list(start), history)[0]


def slow_obstacle(history, index):
    word = history[index]
    earlier = [place for place in range(index) if history[place] == word]
    since = list(range(earlier[-1] + 1, index)) if earlier else []
    if not since:
        return None
    longest = max(common_length(word, history[place]) for place in since)
    return word[:longest], [place for place in since if common_length(word, history[place]) == longest][-1]


class DocumentExamples(unittest.TestCase):
    def test_uses(self):
        result = [keys_of_uses(H), total_keys(H), total_keys(H[::-1]), saved_keys(H)]
        self.assertEqual(result, [[4, 4, 2, 1, 4, 3], 18, 18, 6])
        self.assertEqual(total_keys(["car"], start=["car", "cat"]), 4)

    def test_obstacles(self):
        self.assertEqual([obstacle(H, index) for index in range(6)], [None, None, ("", 1), None, None, ("c", 4)])

    def test_rounds(self):
        result = [round_keys(["car", "dog"]), keys_of_rounds(["car", "dog"], 3), steady_keys(["dog", "cow", "car"])]
        self.assertEqual(result, [(8, 4), 16, [("car", 3), ("cow", 3), ("dog", 2)]])


class Uses(unittest.TestCase):
    def test_empty_history(self):
        for start in [None, [], B, full_book()]:
            result = [answer_of(function, [], start=start) for function in PLAYED]
            self.assertEqual(result, [[], 0, 0])
        self.assertEqual([keys_of_uses([]), total_keys([]), saved_keys([])], [[], 0, 0])

    def test_first_uses_are_typed_to_the_end(self):
        for words in [["a"], [LONG_WORD], B, chain_book(), full_book(), wide_book()]:
            self.assertEqual(answer_of(keys_of_uses, words), [len(word) + 1 for word in words])
            self.assertEqual(answer_of(saved_keys, words), 0)

    def test_the_same_word_again(self):
        self.assertEqual(keys_of_uses(["dog"] * 5), [4, 1, 1, 1, 1])
        self.assertEqual([total_keys([LONG_WORD] * 200), saved_keys([LONG_WORD] * 200)], [13 + 199, 199 * 12])

    def test_start_absent_none_and_empty(self):
        for history in sample_histories():
            expected = slow_numbers(history)
            self.assertEqual(answer_of(keys_of_uses, history), expected)
            self.assertEqual(answer_of(keys_of_uses, history, start=None), expected)
            self.assertEqual(answer_of(keys_of_uses, history, start=[]), expected)
            self.assertEqual(total_keys(history, start=None), total_keys(history, start=[]))
            self.assertEqual(saved_keys(history, start=None), saved_keys(history, start=[]))

    def test_start_given(self):
        self.assertEqual(keys_of_uses(["car", "cat", "up", "dog"], start=B), [4, 4, 3, 2])
        self.assertEqual(saved_keys(["car", "cat", "up", "dog"], start=B), 0 + 0 + 0 + 2)
        self.assertEqual(keys_of_uses(["car"], start=C), [1])
        source = random.Random(23)
        for book in large_books() + random_books(24, 40):
            history = [source.choice(book) for _ in range(30 if book else 0)]
            for start in [book, book[::-1], book[::2]]:
                self.assertEqual(answer_of(keys_of_uses, history, start=start), slow_numbers(history, start))

    def test_words_that_only_the_start_has_count(self):
        self.assertEqual(keys_of_uses(["car", "up", "car"], start=["car", "cat"]), [4, 3, 2])
        self.assertEqual(keys_of_uses(["up", "an", "up"], start=["us"]), [3, 3, 2])

    def test_totals(self):
        for history in sample_histories():
            for start in [None, book_after(history)[::-1]]:
                numbers = slow_numbers(history, start or [])
                self.assertEqual(answer_of(total_keys, history, start=start), sum(numbers))
                typed = sum(len(word) + 1 for word in history)
                self.assertEqual(answer_of(saved_keys, history, start=start), typed - sum(numbers))

    def test_reversed_history_needs_as_many(self):
        for history in sample_histories():
            self.assertEqual(total_keys(history), total_keys(history[::-1]))
            self.assertEqual(saved_keys(history), saved_keys(history[::-1]))

    def test_kinds(self):
        self.assertEqual([type(function(H)) for function in PLAYED], [list, int, int])
        self.assertEqual([type(number) for number in keys_of_uses(H)], [int] * 6)


class WrongUses(unittest.TestCase):
    def test_invalid_history(self):
        for value in NOT_HISTORIES:
            with self.subTest(value):
                for function in PLAYED:
                    self.assertIs(type(raised_by(function, value)), errors.InvalidHistoryError)
                    for start in [None, B, ["a", "an"], "car"]:
                        self.assertIs(type(raised_by(function, value, start=start)), errors.InvalidHistoryError)

    def test_invalid_start(self):
        for value in [value for value in NOT_BOOKS if value is not None]:
            with self.subTest(value):
                for function in PLAYED:
                    for history in [[], H, ["c", "up"]]:
                        self.assertIs(type(raised_by(function, history, start=value)), errors.InvalidBookError)

    def test_clashes(self):
        for history, start, pair in [
            (["ca"], B, ("ca", "car")),
            (["up", "cart", "up"], B, ("car", "cart")),
            (["dogs", "c", "an"], B, ("c", "car")),
            (["into", "a"], ["inn", "an"], ("a", "an")),
            (["in"], ["into", "inn"], ("in", "inn")),
            ([LONG_WORD, LONG_WORD], [LONG_WORD[:11]], (LONG_WORD[:11], LONG_WORD)),
        ]:
            for function in PLAYED:
                with self.subTest(function=function.__name__, history=history, start=start):
                    error = raised_by(function, history, start=start)
                    self.assertIs(type(error), errors.PrefixError)
                    self.assertEqual([type(error.pair), error.pair], [tuple, pair])
                    self.assertEqual(error.pair, clashing_pair(start + history))

    def test_start_is_passed_by_name_only(self):
        for function in PLAYED:
            with self.assertRaises(TypeError):
                function(H, B)


class Obstacle(unittest.TestCase):
    def test_first_uses(self):
        for words in [["a"], B, chain_book(), full_book()]:
            self.assertEqual([answer_of(obstacle, words, index) for index in range(len(words))], [None] * len(words))

    def test_no_other_word_since(self):
        self.assertEqual([obstacle(["go", "go", "go"], index) for index in range(3)], [None] * 3)
        self.assertEqual(obstacle(["in", "go", "in", "in"], 3), None)

    def test_longest_beginning_and_last_position(self):
        history = ["car", "cat", "cow", "cab", "dog", "car"]
        self.assertEqual(answer_of(obstacle, history, 5), ("ca", 3))
        self.assertEqual(obstacle(["car", "cat", "cab", "cat", "cow", "car"], 5), ("ca", 3))
        self.assertEqual(obstacle(["up", "in", "go", "up"], 3), ("", 2))
        self.assertEqual(obstacle(["car", "cat", "car", "dog", "car"], 4), ("", 3))
        self.assertEqual(obstacle(["cat", "car", "dog", "car"], 3), ("", 2))

    def test_long_beginnings(self):
        words = chain_book()
        history = words + words[::-1]
        self.assertEqual(obstacle(history, 13), None)
        self.assertEqual(obstacle(history, 14), ("a" * 11, 13))
        self.assertEqual(obstacle(history, 25), ("", 24))
        self.assertEqual(obstacle([words[12], words[11], words[0], words[12]], 3), ("a" * 11, 1))

    def test_against_the_definition(self):
        for history in sample_histories():
            for index in range(len(history)):
                self.assertEqual(answer_of(obstacle, history, index), slow_obstacle(history, index))

    def test_is_where_the_keys_come_from(self):
        for history in sample_histories():
            for index, number in enumerate(keys_of_uses(history)):
                found = obstacle(history, index)
                if found is not None:
                    self.assertEqual(number, len(found[0]) + 2)
                    self.assertTrue(history[found[1]].startswith(found[0]))
                elif history[index] in history[:index]:
                    self.assertEqual(number, 1)
                else:
                    self.assertEqual(number, len(history[index]) + 1)

    def test_kinds(self):
        result = obstacle(H, 5)
        self.assertEqual([type(result), type(result[0]), type(result[1])], [tuple, str, int])

    def test_invalid_history(self):
        for value in NOT_HISTORIES:
            with self.subTest(value):
                for index in [0, -1, None, True]:
                    self.assertIs(type(raised_by(obstacle, value, index)), errors.InvalidHistoryError)

    def test_invalid_index(self):
        for index in NOT_INTEGERS + [-1, 6, 7, -6, -LARGE, LARGE]:
            with self.subTest(index):
                self.assertIs(type(raised_by(obstacle, H, index)), errors.InvalidNumberError)
        for index in NOT_INTEGERS + [0, -1, 1]:
            self.assertIs(type(raised_by(obstacle, [], index)), errors.InvalidNumberError)
        self.assertIs(type(raised_by(obstacle, ["a"], 1)), errors.InvalidNumberError)
        self.assertIsNone(answer_of(obstacle, ["a"], 0))


class Rounds(unittest.TestCase):
    def test_empty_history(self):
        self.assertEqual(answer_of(round_keys, []), (0, 0))
        self.assertEqual([keys_of_rounds([], rounds) for rounds in [0, 1, 2, LARGE]], [0, 0, 0, 0])

    def test_one_word(self):
        self.assertEqual([answer_of(round_keys, ["a"]), round_keys([LONG_WORD] * 3)], [(2, 1), (15, 3)])
        self.assertEqual(keys_of_rounds([LONG_WORD], LARGE), 13 + LARGE - 1)

    def test_numbers_of_rounds(self):
        for history in sample_histories():
            first, later = sum(slow_numbers(history)), sum(slow_numbers(history * 2)) - sum(slow_numbers(history))
            self.assertEqual(answer_of(round_keys, history), (first, later))
            self.assertEqual(answer_of(keys_of_rounds, history, 0), 0)
            for rounds in [1, 2, 3, LARGE - 1, LARGE]:
                self.assertEqual(answer_of(keys_of_rounds, history, rounds), first + (rounds - 1) * later)

    def test_all_rounds_from_the_second_one_on_need_the_same(self):
        for history in sample_histories():
            book = []
            for rounds in range(5):
                number = total_keys(history, start=book)
                self.assertEqual(number, round_keys(history)[min(rounds, 1)])
                self.assertEqual(keys_of_rounds(history, rounds), total_keys(history * rounds))
                book = after_uses(book, *history)

    def test_kinds(self):
        self.assertEqual([type(round_keys(H))] + [type(number) for number in round_keys(H)], [tuple, int, int])
        self.assertEqual([type(keys_of_rounds(H, 0)), type(keys_of_rounds(H, 7))], [int, int])

    def test_invalid_history(self):
        for value in NOT_HISTORIES:
            with self.subTest(value):
                self.assertIs(type(raised_by(round_keys, value)), errors.InvalidHistoryError)
                for rounds in [0, -1, None, LARGE + 1, True]:
                    self.assertIs(type(raised_by(keys_of_rounds, value, rounds)), errors.InvalidHistoryError)

    def test_invalid_rounds(self):
        for rounds in NOT_INTEGERS + [-1, -LARGE, LARGE + 1, LARGE * 9]:
            for history in [[], H]:
                with self.subTest(rounds=rounds, history=history):
                    self.assertIs(type(raised_by(keys_of_rounds, history, rounds)), errors.InvalidNumberError)


class SteadyKeys(unittest.TestCase):
    def test_edges(self):
        self.assertEqual([answer_of(steady_keys, words) for words in [[], ["a"]]], [[], [("a", 1)]])
        self.assertEqual(steady_keys([LONG_WORD]), [(LONG_WORD, 1)])
        self.assertEqual(steady_keys(["b", "a"]), [("a", 2), ("b", 2)])

    def test_longest_common_beginning_with_any_other_word(self):
        for words in large_books() + random_books(25, 40):
            expected = []
            for word in sorted(words):
                lengths = [common_length(word, other) + 2 for other in words if other != word]
                expected.append((word, max(lengths, default=1)))
            self.assertEqual(answer_of(steady_keys, words), expected)

    def test_in_all_orders(self):
        for words in sets_for_search(26, 12):
            expected = answer_of(steady_keys, words)
            for order in orders_of(words)[::3]:
                self.assertEqual(steady_keys(order), expected)
                self.assertEqual(sorted(zip(order, slow_numbers(order, order))), expected)
                self.assertEqual(sum(number for _, number in expected), round_keys(order)[1])

    def test_kinds(self):
        result = steady_keys(B)
        self.assertEqual([type(result)] + [type(row) for row in result], [list] + [tuple] * 4)

    def test_invalid_words(self):
        for value in NOT_BOOKS:
            with self.subTest(value):
                self.assertIs(type(raised_by(steady_keys, value)), errors.InvalidBookError)


class GeneralRules(unittest.TestCase):
    def test_by_name(self):
        self.assertEqual([total_keys(history=H), saved_keys(history=H)], [18, 6])
        self.assertEqual(keys_of_uses(start=["car", "cat"], history=["car"]), [4])
        self.assertEqual([obstacle(index=5, history=H), round_keys(history=["car", "dog"])], [("c", 4), (8, 4)])
        self.assertEqual([keys_of_rounds(rounds=3, history=["car", "dog"]), steady_keys(words=["a"])], [16, [("a", 1)]])

    def test_results_are_new_lists(self):
        words = B[:]
        for function in [keys_of_uses, steady_keys]:
            before = list(function(words))
            function(words).clear()
            self.assertEqual(function(words), before)
        self.assertEqual(words, B)

    def test_changed_lists_are_read_anew(self):
        history, start = ["dog", "cat", "dog"], ["cow"]
        calls = [
            lambda: keys_of_uses(history, start=start), lambda: total_keys(history), lambda: saved_keys(history),
            lambda: obstacle(history, 2), lambda: round_keys(history), lambda: keys_of_rounds(history, 2),
        ]
        self.assertEqual([call() for call in calls], [[4, 4, 2], 10, 2, ("", 1), (10, 5), 15])
        history[1] = "dot"
        start[0] = "dot"
        self.assertEqual([call() for call in calls], [[4, 4, 4], 12, 0, ("do", 1), (12, 9), 21])
        history[1] = "do"
        for call in calls:
            self.assertIs(type(raised_by(call)), errors.InvalidHistoryError)

    def test_equal_arguments_give_equal_results(self):
        for history in sample_histories():
            self.assertEqual(keys_of_uses(history), keys_of_uses(list(history)))
            self.assertEqual(round_keys(history), round_keys(list(history)))


if __name__ == "__main__":
    unittest.main()
