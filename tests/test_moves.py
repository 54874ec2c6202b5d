"""The fewest uses from a book to a goal: [2] to [5], [8], [16] and [19]."""

import itertools
import random
import unittest

from ghosttext import errors
from ghosttext.branches import are_alike
from ghosttext.moves import count_shortest, fewest_uses, is_shortest, needed_words, nth_shortest, shortest_rank
from ghosttext.orders import nth_alike
from ghosttext.states import book_of_state, count_states, nth_state
from ghosttext.words import after_uses
from tests.samples import (
    B, C, LONG_WORD, NOT_BOOKS, NOT_HISTORIES, NOT_INTEGERS, Row, Text, answer_of, chain_book, count_by_shuffles,
    full_book, large_books, orders_of, raised_by, random_books, sets_for_search, slow_play, slow_state,
    slow_suggestion, wide_book,
)

D = ["an", "at", "in", "it", "up"]
E = ["at", "an", "it", "in", "up"]
OF_BOOKS = [fewest_uses, needed_words, count_shortest]
WITH_THIRD = [nth_shortest, shortest_rank, is_shortest]
ALL = OF_BOOKS + WITH_THIRD


def slow_shortest(book, goal):
    """Return all shortest lists, by a search over all lists of uses."""
    wanted = slow_state(goal)
    for length in itertools.count():
        found = []
        for uses in itertools.product(sorted(book), repeat=length):
            last = list(dict.fromkeys(reversed(uses)))[::-1]
            if slow_state([word for word in book if word not in last] + last) == wanted:
                found.append(list(uses))
        if found:
            return found


def slow_needed(book, goal):
    """Return the words that the goal suggests for the beginnings of the branchings that change."""
    changing = [text for (text, one), (_, two) in zip(slow_state(book), slow_state(goal)) if one != two]
    return sorted({slow_suggestion(goal, text[:length]) for text in changing for length in range(len(text) + 1)})


def pair_book(many=60):
    """Return a book of pairs that have a beginning of their own in common, and its goal, where each pair is turned."""
    heads = ["".join(head) for head in itertools.product("abcdefgh", repeat=2)][:many]
    book = [head + letter for head in heads for letter in "ab"]
    return book, [head + letter for head in heads for letter in "ba"]


def small_pairs():
    """Return books of at most six words, each with goals of its words."""
    source = random.Random(71)
    pairs = [(B, C), (C, B), (D, E), (E, D), (D, D), ([], []), (["a"], ["a"])]
    for words in sets_for_search(72, 25):
        for _ in range(3):
            pairs.append((source.sample(words, len(words)), source.sample(words, len(words))))
        pairs.append((sorted(words), sorted(words)[::-1]))
    return pairs


def large_pairs():
    source = random.Random(73)
    pairs = [pair_book(), pair_book()[::-1]]
    for words in large_books() + random_books(74, 40):
        states = count_states(words)
        pairs.append((words, source.sample(words, len(words))))
        pairs.append((words, words[::-1]))
        pairs.append((words, book_of_state(words, nth_state(words, source.randrange(states)))))
        # Few uses lead to a goal that differs in few branchings.
        pairs.append((words, after_uses(words, *source.sample(words, min(3, len(words))))))
    return pairs


def some_indices(many, seed):
    source = random.Random(seed)
    return sorted({0, many - 1, many // 2, source.randrange(many), source.randrange(many)})


class DocumentExamples(unittest.TestCase):
    def test_all(self):
        result = [fewest_uses(B, C), fewest_uses(C, B), nth_shortest(C, B, 0)]
        self.assertEqual(result, [1, 3, ["cat", "cow", "dog"]])
        result = [needed_words(D, E), count_shortest(D, E), nth_shortest(D, E, 1)]
        self.assertEqual(result, [["an", "in", "up"], 2, ["in", "an", "up"]])


class ShortestLists(unittest.TestCase):
    def test_against_all_lists_of_uses(self):
        for book, goal in small_pairs():
            with self.subTest(book=book, goal=goal):
                expected = slow_shortest(book, goal)
                self.assertEqual(answer_of(fewest_uses, book, goal), len(expected[0]))
                self.assertEqual(answer_of(count_shortest, book, goal), len(expected))
                for index, uses in enumerate(expected):
                    self.assertEqual(answer_of(needed_words, book, goal), sorted(uses))
                    self.assertEqual(answer_of(nth_shortest, book, goal, index), uses)
                    self.assertEqual(answer_of(shortest_rank, book, goal, uses), index)
                    self.assertIs(answer_of(is_shortest, book, goal, uses), True)

    def test_all_other_lists_are_none(self):
        for book, goal in [(D, E), (B, C), (C, B), (["a", "b"], ["b", "a"]), (["xa", "xb", "y"], ["xb", "xa", "y"])]:
            expected = slow_shortest(book, goal)
            for length in range(5):
                for uses in itertools.product(book, repeat=length):
                    self.assertIs(answer_of(is_shortest, book, goal, list(uses)), list(uses) in expected)

    def test_alike_books(self):
        pairs = [(book, book[:]) for book in [[], ["a"], B, full_book(), chain_book()]]
        pairs += [(C, ["dog", "cow", "cat", "car"])] + [(book, nth_alike(book, 0)) for book in large_books()]
        for book, goal in pairs:
            result = [answer_of(function, book, goal) for function in OF_BOOKS] + [nth_shortest(book, goal, 0)]
            self.assertEqual(result, [0, [], 1, []])
            self.assertEqual([is_shortest(book, goal, []), shortest_rank(book, goal, [])], [True, 0])
            for word in book[:3]:
                self.assertIs(is_shortest(book, goal, [word]), False)

    def test_needed_words_of_large_books(self):
        for book, goal in large_pairs():
            expected = slow_needed(book, goal)
            self.assertEqual(answer_of(needed_words, book, goal), expected)
            self.assertEqual(answer_of(fewest_uses, book, goal), len(expected))
            self.assertEqual(expected == [], are_alike(book, goal))

    def test_counts_of_large_books(self):
        for book, goal in large_pairs():
            needed = slow_needed(book, goal)
            expected = count_by_shuffles([word for word in goal if word in needed])
            self.assertEqual(answer_of(count_shortest, book, goal), expected)

    def test_lists_of_large_books(self):
        for book, goal in large_pairs():
            many = count_shortest(book, goal)
            for index in some_indices(many, 75):
                uses = answer_of(nth_shortest, book, goal, index)
                self.assertEqual(sorted(uses), slow_needed(book, goal))
                self.assertEqual(slow_state(after_uses(book, *uses)), slow_state(goal))
                self.assertEqual(answer_of(shortest_rank, book, goal, uses), index)
                self.assertIs(answer_of(is_shortest, book, goal, uses), True)
                if index + 1 < many:
                    self.assertLess(uses, nth_shortest(book, goal, index + 1))

    def test_leaving_out_a_word_of_a_large_list(self):
        for book, goal in large_pairs():
            uses = nth_shortest(book, goal, count_shortest(book, goal) - 1)
            for place in range(0, len(uses), 7):
                fewer = uses[:place] + uses[place + 1:]
                self.assertNotEqual(slow_state(slow_play(book, fewer)[1]), slow_state(goal))
                self.assertIs(is_shortest(book, goal, fewer), False)

    def test_many_lists(self):
        book, goal = pair_book()
        self.assertEqual([len(book), fewest_uses(book, goal)], [120, 60])
        many = count_shortest(book, goal)
        self.assertGreater(many, 10 ** 60)
        self.assertEqual(shortest_rank(book, goal, nth_shortest(book, goal, many - 2)), many - 2)

    def test_first_and_last_of_large_books(self):
        book = chain_book()[::-1]
        self.assertEqual(fewest_uses(book, book[::-1]), 1)
        self.assertEqual(nth_shortest(book, book[::-1], 0), [book[0]])
        self.assertEqual([fewest_uses(book[::-1], book), count_shortest(book[::-1], book)], [12, 1])
        self.assertEqual(nth_shortest(book[::-1], book, 0), book[1:])
        wide = wide_book()
        goal = after_uses(wide, "mb", "q" * 11 + "b", "c")
        self.assertEqual([needed_words(wide, goal), count_shortest(wide, goal)], [["c", "mb", "q" * 11 + "b"], 2])
        self.assertEqual(nth_shortest(wide, goal, 1), ["q" * 11 + "b", "mb", "c"])

    def test_depend_on_the_states_only(self):
        for words in sets_for_search(76, 10):
            for goal in [words[::-1], sorted(words)]:
                other, alike = nth_alike(words, 0), nth_alike(goal, 0)
                self.assertEqual(needed_words(words, goal), needed_words(other, alike))
                self.assertEqual(count_shortest(words, goal), count_shortest(other, alike))
                self.assertEqual(nth_shortest(words, goal, 0), nth_shortest(other, alike, 0))

    def test_kinds(self):
        self.assertEqual([type(function(D, E)) for function in OF_BOOKS], [int, list, int])
        self.assertEqual([type(nth_shortest(D, E, 0)), type(shortest_rank(D, E, ["an", "in", "up"]))], [list, int])


class OtherValues(unittest.TestCase):
    """Values that are no shortest lists."""

    def not_shortest(self):
        good = ["an", "in", "up"]
        rows = NOT_HISTORIES + [
            [], ["up"], ["an", "in"], ["in", "up"], ["an", "up", "in"], ["up", "an", "in"], ["up", "in", "an"],
            ["an", "in", "up", "up"], ["an", "an", "in", "up"], ["up", "an", "in", "up"], ["at", "an", "in", "up"],
            ["an", "in", "us"], ["an", "it", "up"], ["zz"], ["an", "in", "up", "zz"], good * 60,
            tuple(good), Row(good), set(good), dict.fromkeys(good), iter(good), "an in up", [good],
        ]
        return rows

    def test_no_shortest_lists(self):
        for value in self.not_shortest():
            with self.subTest(value):
                self.assertIs(answer_of(is_shortest, D, E, value), False)
                self.assertIs(type(raised_by(shortest_rank, D, E, value)), errors.InvalidHistoryError)

    def test_of_alike_books(self):
        for value in self.not_shortest():
            for book in [[], B, ["an"]]:
                if value != [] or type(value) is not list:
                    self.assertIs(answer_of(is_shortest, book, book, value), False)
                    self.assertIs(type(raised_by(shortest_rank, book, book, value)), errors.InvalidHistoryError)

    def test_strings_of_another_class_are_strings(self):
        value = [Text("in"), Text("an"), Text("up")]
        self.assertEqual([is_shortest(D, E, value), shortest_rank(D, E, value)], [True, 1])

    def test_a_list_that_holds_itself(self):
        value = []
        value.append(value)
        self.assertIs(is_shortest(D, E, value), False)


class WrongValues(unittest.TestCase):
    def calls(self, book, goal):
        """Return calls with these books, also with invalid third arguments."""
        calls = [(function, book, goal) for function in OF_BOOKS]
        calls += [(nth_shortest, book, goal, index) for index in [0, -1, 10 ** 30, None, True, "0"]]
        calls += [(shortest_rank, book, goal, value) for value in [[], ["zz"], None, 0, ["in", "into"]]]
        return calls + [(is_shortest, book, goal, value) for value in [[], ["zz"], None, 0, ["in", "into"]]]

    def test_invalid_book(self):
        for value in NOT_BOOKS:
            with self.subTest(value):
                for goal in [[], B, None, ["zz"]]:
                    for call in self.calls(value, goal):
                        self.assertIs(type(raised_by(*call)), errors.InvalidBookError)

    def test_invalid_goal(self):
        for value in NOT_BOOKS:
            with self.subTest(value):
                for book in [[], B]:
                    for call in self.calls(book, value):
                        self.assertIs(type(raised_by(*call)), errors.InvalidBookError)

    def test_different_words(self):
        for book, goal in [
            (B, B[:3]), (B[:3], B), ([], ["a"]), (["a"], []), (["a"], ["b"]), (["a"], [LONG_WORD]), (B, D),
            (["in"], ["into"]), (full_book(), full_book()[1:]), (B, ["car", "cat", "cow", "do"]),
        ]:
            for call in self.calls(book, goal):
                with self.subTest(book=book, goal=goal, function=call[0].__name__):
                    self.assertIs(type(raised_by(*call)), errors.DifferentWordsError)

    def test_invalid_index(self):
        for book, goal in [(D, E), (B, C), (C, B), (B, B), ([], []), (["a"], ["a"]), pair_book()]:
            many = count_shortest(book, goal)
            for index in NOT_INTEGERS + [-1, -many, many, many + 1, 10 ** 219, -10 ** 219]:
                with self.subTest(book=book, goal=goal, index=index):
                    self.assertIs(type(raised_by(nth_shortest, book, goal, index)), errors.InvalidNumberError)
            self.assertIs(is_shortest(book, goal, nth_shortest(book, goal, many - 1)), True)


class GeneralRules(unittest.TestCase):
    def test_by_name(self):
        result = [function(goal=E, book=D) for function in OF_BOOKS]
        self.assertEqual(result, [3, ["an", "in", "up"], 2])
        self.assertEqual(nth_shortest(index=1, goal=E, book=D), ["in", "an", "up"])
        self.assertEqual(shortest_rank(value=["in", "an", "up"], goal=E, book=D), 1)
        self.assertIs(is_shortest(value=["in", "up", "an"], goal=E, book=D), False)

    def test_results_are_new_lists(self):
        book, goal = D[:], E[:]
        needed_words(book, goal).clear()
        nth_shortest(book, goal, 0).clear()
        self.assertEqual([needed_words(book, goal), nth_shortest(book, goal, 0)], [["an", "in", "up"]] * 2)
        self.assertEqual([book, goal], [D, E])
        value = ["an", "in", "up"]
        self.assertEqual([shortest_rank(book, goal, value), value], [0, ["an", "in", "up"]])
        alike = needed_words(D, D)
        alike.append("an")
        self.assertEqual([needed_words(D, D), nth_shortest(D, D, 0)], [[], []])

    def test_changed_lists_are_read_anew(self):
        book, goal = C[:], B[:]
        self.assertEqual([fewest_uses(book, goal), needed_words(book, goal)], [3, ["cat", "cow", "dog"]])
        goal.append(goal.pop(1))
        self.assertEqual(goal, ["car", "cow", "dog", "cat"])
        self.assertEqual([fewest_uses(book, goal), needed_words(book, goal)], [1, ["cat"]])
        book.remove("cow")
        for call in WrongValues().calls(book, goal):
            self.assertIs(type(raised_by(*call)), errors.DifferentWordsError)

    def test_the_same_list_as_book_and_goal(self):
        book = B[:]
        self.assertEqual([fewest_uses(book, book), nth_shortest(book, book, 0), book], [0, [], B])

    def test_equal_arguments_give_equal_results(self):
        for words in [B, D, ["zaa", "zab", "zba", "y"]]:
            for goal in orders_of(words):
                self.assertEqual([function(words, goal) for function in OF_BOOKS],
                                 [function(list(words), list(goal)) for function in OF_BOOKS])


if __name__ == "__main__":
    unittest.main()
