"""Words, books, histories and uses: [3] to [6] and [10]."""

import random
import unittest

from ghosttext import errors
from ghosttext.words import after_uses, book_after, clashing_pair, is_book, is_history, is_word
from tests.samples import (
    B, C, CLASHING_LISTS, LONG_WORD, NOT_BOOKS, NOT_HISTORIES, NOT_WORD_LISTS, NOT_WORDS, TOO_LONG_WORD, Row, Text,
    answer_of, chain_book, full_book, new_word, raised_by, random_books,
)

WORDS = ["a", "z", "an", "car", "zz", "aaaaaaaaaaaa", "azazazazazaz", LONG_WORD, LONG_WORD[:11], "zyxwvutsrqpo"]


class DocumentExamples(unittest.TestCase):
    def test_uses(self):
        result = [after_uses(B, "car", "an"), after_uses(B), book_after(["in", "go", "in"])]
        self.assertEqual(result, [["cat", "cow", "dog", "car", "an"], ["car", "cat", "cow", "dog"], ["go", "in"]])

    def test_clashes(self):
        result = [clashing_pair(["go", "in", "go"]), clashing_pair(["in", "into", "a", "an"])]
        self.assertEqual(result, [None, ("a", "an")])


class IsWord(unittest.TestCase):
    def test_words(self):
        for word in WORDS + list("abcdefghijklmnopqrstuvwxyz"):
            with self.subTest(word):
                self.assertIs(answer_of(is_word, word), True)

    def test_every_length(self):
        for length in range(30):
            self.assertIs(is_word("q" * length), 1 <= length <= 12)

    def test_every_ascii_character(self):
        for code in range(128):
            self.assertIs(is_word("a" + chr(code) + "b"), "a" <= chr(code) <= "z")

    def test_other_values(self):
        for value in NOT_WORDS + [TOO_LONG_WORD, [[[]]], B]:
            with self.subTest(value):
                self.assertIs(answer_of(is_word, value), False)


class IsBookAndHistory(unittest.TestCase):
    def test_books_are_also_histories(self):
        books = [[], ["a"], [LONG_WORD], B, C, B[::-1], full_book(), chain_book(), WORDS[3:6]]
        for book in books + random_books(1, 40):
            with self.subTest(book):
                self.assertIs(answer_of(is_book, book), True)
                self.assertIs(answer_of(is_history, book), True)

    def test_any_length_will_do(self):
        self.assertEqual(len(full_book(120)), 120)
        for many in [119, 120, 121, 125, 130]:
            self.assertIs(is_book(full_book(many)), True)
            self.assertIs(is_history(full_book(many)), True)
        for many in [199, 200, 201, 5000]:
            self.assertIs(is_history((full_book(7) * many)[:many]), True)
            self.assertIs(is_book((full_book(7) * many)[:many]), False)
        large = [one + two + three + "x" for one in "abcdefghij" for two in "abcdefghij" for three in "abcdefghij"]
        self.assertEqual([is_book(large), is_book(large + ["abc"]), is_history(large + ["abc"])], [True, False, False])

    def test_a_word_twice_makes_no_book_but_a_history(self):
        for history in [["car", "car"], ["car", "cat", "car"], ["a", "a", "a"], full_book() + full_book()[:80]]:
            with self.subTest(history):
                self.assertIs(answer_of(is_book, history), False)
                self.assertIs(answer_of(is_history, history), True)

    def test_no_books(self):
        for value in NOT_BOOKS:
            with self.subTest(value):
                self.assertIs(answer_of(is_book, value), False)

    def test_no_histories(self):
        for value in NOT_HISTORIES:
            with self.subTest(value):
                self.assertIs(answer_of(is_history, value), False)

    def test_one_clash_among_many_words(self):
        book = full_book(119)
        for place in [0, 60, 119]:
            for word in [book[50][:11], book[50][:1]]:
                value = book[:place] + [word] + book[place:]
                self.assertEqual([is_book(value), is_history(value)], [False, False])

    def test_a_list_that_holds_itself(self):
        value = []
        value.append(value)
        self.assertEqual([is_word(value), is_book(value), is_history(value)], [False, False, False])


class ClashingPair(unittest.TestCase):
    def test_none(self):
        for value in [[], ["a"], ["a", "a"], B, ["go", "in", "go"], ["ab", "ac", "b"], full_book(), chain_book()]:
            with self.subTest(value):
                self.assertIsNone(answer_of(clashing_pair, value))

    def test_the_only_pair(self):
        self.assertEqual(clashing_pair(["in", "into"]), ("in", "into"))
        self.assertEqual(clashing_pair(["into", "go", "in", "go"]), ("in", "into"))
        self.assertEqual(clashing_pair([LONG_WORD, LONG_WORD[:11]]), (LONG_WORD[:11], LONG_WORD))
        self.assertEqual(clashing_pair(["b", "ba", "a", "b"]), ("b", "ba"))

    def test_the_least_of_several_pairs(self):
        self.assertEqual(clashing_pair(["in", "inn", "i", "into"]), ("i", "in"))
        self.assertEqual(clashing_pair(["up", "ups", "upon", "in"]), ("up", "upon"))
        self.assertEqual(clashing_pair(["bb", "bbb", "ab", "abz", "aba"]), ("ab", "aba"))
        self.assertEqual(clashing_pair(["z", "zz", "yyyy", "yyyyy"]), ("yyyy", "yyyyy"))
        self.assertEqual(clashing_pair(["abcz", "ab", "abd", "abc"]), ("ab", "abc"))

    def test_against_all_pairs(self):
        source = random.Random(2)
        for _ in range(300):
            size = source.randint(0, 12)
            words = ["".join(source.choice("abc") for _ in range(source.randint(1, 5))) for _ in range(size)]
            pairs = [(one, two) for one in words for two in words if one != two and two.startswith(one)]
            self.assertEqual(answer_of(clashing_pair, words), min(pairs, default=None))

    def test_kind(self):
        self.assertIs(type(clashing_pair(["a", "an"])), tuple)

    def test_no_list_of_words(self):
        for value in NOT_WORD_LISTS + [["in", "into", ""], ["in", "into", None]]:
            with self.subTest(value):
                self.assertIs(type(raised_by(clashing_pair, value)), errors.InvalidWordError)


class AfterUses(unittest.TestCase):
    def test_no_uses(self):
        for book in [[], B, full_book()]:
            result = answer_of(after_uses, book)
            self.assertEqual(result, book)
            self.assertIsNot(result, book)

    def test_a_word_of_the_book(self):
        self.assertEqual(answer_of(after_uses, B, "car"), ["cat", "cow", "dog", "car"])
        self.assertEqual(answer_of(after_uses, B, "cow"), ["car", "cat", "dog", "cow"])
        self.assertEqual(answer_of(after_uses, B, "dog"), B)

    def test_a_new_word(self):
        self.assertEqual(answer_of(after_uses, [], "a"), ["a"])
        self.assertEqual(answer_of(after_uses, B, "an"), B + ["an"])
        self.assertEqual(answer_of(after_uses, [], LONG_WORD), [LONG_WORD])

    def test_the_same_word_several_times(self):
        self.assertEqual(answer_of(after_uses, B, "cat", "cat", "cat"), ["car", "cow", "dog", "cat"])
        self.assertEqual(answer_of(after_uses, B, "an", "cat", "an"), ["car", "cow", "dog", "cat", "an"])
        self.assertEqual(answer_of(after_uses, [], "go", "go"), ["go"])

    def test_twenty_words(self):
        book = full_book()
        uses = book[10:30]
        self.assertEqual(len(uses), 20)
        self.assertEqual(answer_of(after_uses, book, *uses), book[:10] + book[30:] + uses)
        self.assertEqual(answer_of(after_uses, book, *uses[::-1]), book[:10] + book[30:] + uses[::-1])
        self.assertEqual(answer_of(after_uses, [], *uses), uses)
        self.assertEqual(answer_of(after_uses, book, *book[:25]), book[25:] + book[:25])

    def test_step_by_step(self):
        source = random.Random(3)
        for book in random_books(4, 60):
            words = book[:] + [new_word(source, book) or "a"]
            if clashing_pair(words) is not None:
                continue
            uses = [source.choice(words) for _ in range(source.randint(0, 20))]
            expected = book[:]
            for word in uses:
                expected = [other for other in expected if other != word] + [word]
            self.assertEqual(answer_of(after_uses, book, *uses), expected)

    def test_a_full_book_takes_more_words(self):
        book = full_book(120)
        self.assertEqual(after_uses(book, "x", "y"), book + ["x", "y"])

    def test_by_name(self):
        self.assertEqual(after_uses(book=B), B)

    def test_invalid_book(self):
        for value in NOT_BOOKS:
            with self.subTest(value):
                for used in [(), ("car",), ("",), (None, "in", "into")]:
                    self.assertIs(type(raised_by(after_uses, value, *used)), errors.InvalidBookError)

    def test_invalid_word(self):
        for value in NOT_WORDS:
            with self.subTest(value):
                for used in [(value,), ("an", value), (value, "an"), ("ca", value), (value, "ca"), ("a", "an", value)]:
                    self.assertIs(type(raised_by(after_uses, B, *used)), errors.InvalidWordError)

    def test_clashes(self):
        for book, used, pair in [
            (B, ["ca"], ("ca", "car")),
            (B, ["cart"], ("car", "cart")),
            (B, ["c", "cats", "a", "an"], ("a", "an")),
            (B, ["cow", "do", "cow"], ("do", "dog")),
            (B, ["dogs", "c"], ("c", "car")),
            ([], ["in", "into"], ("in", "into")),
            ([], ["into", "in", "in"], ("in", "into")),
            (["into"], ["in", "i"], ("i", "in")),
            ([LONG_WORD], [LONG_WORD[:11]], (LONG_WORD[:11], LONG_WORD)),
        ]:
            with self.subTest(book=book, used=used):
                error = raised_by(after_uses, book, *used)
                self.assertIs(type(error), errors.PrefixError)
                self.assertEqual(error.pair, pair)
                self.assertIs(type(error.pair), tuple)
                self.assertEqual(error.pair, clashing_pair(book + used))


class BookAfter(unittest.TestCase):
    def test_histories(self):
        for history, book in [
            ([], []),
            (["a"], ["a"]),
            (["a", "a", "a"], ["a"]),
            (["dog", "cat", "dog", "dog", "cow", "cat"], ["dog", "cow", "cat"]),
            (B, B),
            (B + B[::-1], B[::-1]),
            (full_book(100) * 2, full_book(100)),
            (full_book(130) + full_book(130)[::-1], full_book(130)[::-1]),
        ]:
            with self.subTest(history):
                self.assertEqual(answer_of(book_after, history), book)

    def test_is_the_order_of_the_last_uses(self):
        source = random.Random(5)
        for book in random_books(6, 60):
            history = [source.choice(book) for _ in range(200 if book else 0)]
            last = {word: index for index, word in enumerate(history)}
            self.assertEqual(answer_of(book_after, history), sorted(last, key=last.get))

    def test_result_is_new(self):
        history = ["car", "dog"]
        result = book_after(history)
        self.assertIsNot(result, history)
        result.append("x")
        self.assertEqual([history, book_after(history)], [["car", "dog"], ["car", "dog"]])

    def test_invalid_history(self):
        for value in NOT_HISTORIES:
            with self.subTest(value):
                self.assertIs(type(raised_by(book_after, value)), errors.InvalidHistoryError)


class GeneralRules(unittest.TestCase):
    def test_by_name(self):
        self.assertEqual([is_word(value="in"), is_book(value=B), is_history(value=["a", "a"])], [True, True, True])
        self.assertEqual(clashing_pair(value=["a", "an"]), ("a", "an"))
        self.assertEqual(book_after(history=["in", "go", "in"]), ["go", "in"])

    def test_results_are_new_lists(self):
        book = B[:]
        first = after_uses(book, "car")
        first.clear()
        self.assertEqual([book, after_uses(book, "car"), type(after_uses(book))], [B, C, list])

    def test_changed_lists_are_read_anew(self):
        book = B[:]
        self.assertEqual([after_uses(book, "an"), is_book(book), clashing_pair(book)], [B + ["an"], True, None])
        book[0] = "cats"
        self.assertEqual([is_book(book), is_history(book), clashing_pair(book)], [False, False, ("cat", "cats")])
        self.assertIs(type(raised_by(after_uses, book, "an")), errors.InvalidBookError)
        self.assertIs(type(raised_by(book_after, book)), errors.InvalidHistoryError)
        book.pop(0)
        self.assertEqual([after_uses(book, "an"), book_after(book)], [B[1:] + ["an"], B[1:]])

    def test_equal_arguments_give_equal_results(self):
        for _ in range(3):
            self.assertEqual(after_uses(list(B), "c" + "ow"), ["car", "cat", "dog", "cow"])
            self.assertEqual(clashing_pair(list(CLASHING_LISTS[-1])), ("in", "inn"))

    def test_strings_are_strings_but_lists_are_exactly_lists(self):
        self.assertEqual([is_word(Text("in")), is_word(Text("In")), is_book([Text("in")])], [True, False, True])
        self.assertEqual([is_book(Row(B)), is_history(Row(B)), is_book(tuple(B))], [False, False, False])


if __name__ == "__main__":
    unittest.main()
