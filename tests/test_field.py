"""Fields that are used key by key: [3] to [7], [11] and [20] to [25]."""

import random
import unittest

from ghosttext import errors
from ghosttext.field import CountingField, Field, SmallCountingField, SmallField
from ghosttext.suggestions import key_text
from ghosttext.text import format_words
from tests.fields import COUNTING_KINDS, KINDS, LARGE_KINDS, SMALL_KINDS, SlowField, look, looks
from tests.samples import (
    B, LONG_WORD, NOT_INTEGERS, NOT_STRINGS, NOT_WORDS, Row, Text, TOO_LONG_WORD, answer_of, chain_book, full_book,
    raised_by, random_books, wide_book,
)

LETTERS = "abcdefghijklmnopqrstuvwxyz"
NOT_KEYS = NOT_STRINGS + [
    "", "ab", "++", "+-", "--", "A", "Z", " ", "\n", "1", "0", "*", "/", ".", ",", "=", "_", "~", "\u00e9", "\u2212",
    "\u00df", "\u0430", "\uff0b", "a ", " a", "a+",
]
NOT_KEY_STRINGS = NOT_STRINGS + [
    " ", "\n", "A", "1", "car cat", "car+ ", " car+", "car\n", "Car+", "caR+", "car*", "car_", "car+\u00e9", "car=",
    "c-a-r.", "\u2212", "++ ++",
]
# What a field says of keys that raise an error, if it has the book B and no text.
WRONG_KEYS = [
    (TOO_LONG_WORD, errors.TooLongError), ("z" * 4000, errors.TooLongError),
    ("car+" + TOO_LONG_WORD, errors.TooLongError), (LONG_WORD + "-lm", errors.TooLongError),
    ("-", errors.NothingTypedError), ("a--", errors.NothingTypedError), ("car+-", errors.NothingTypedError),
    ("zz+cat+-", errors.NothingTypedError), ("cars+", errors.PrefixError), ("zz+zzz+", errors.PrefixError),
    ("up+ups-s+a", errors.PrefixError), ("dogs+-----", errors.PrefixError),
]


def field_with(kind, book=tuple(B), keys="", most=None):
    """Return a field with a book and a typed text."""
    field = kind() if most is None else kind(most)
    for word in book:
        field.press(word + "+")
    field.press(keys)
    return field


def used_field(kind):
    """Return a field with several calls to undo."""
    field = field_with(kind, B, "c")
    field.press("ar+")
    field.forget("dog")
    field.press("up+ca")
    return field


class DocumentExamples(unittest.TestCase):
    def test_field(self):
        field = Field()
        result = [field.press("car+cat+"), field.shown, field.press("+c"), field.text, field.book, field.pressed]
        self.assertEqual(result, [["car", "cat"], "cat", ["cat"], "c", ["car", "cat"], 10])
        result = [field.tried("a+", "+"), field.press("ar+"), field.book, field.report()]
        self.assertEqual(result, [[["cat"], ["cat"]], ["car"], ["cat", "car"], ["words 2"]])

    def test_small_counting_field(self):
        field = SmallCountingField(2)
        result = [field.press("an+in+up+a+"), field.book, field.counts, field.report()]
        self.assertEqual(result, [
            ["an", "in", "up", "a"], ["up", "a"], [("a", 1), ("an", 1), ("in", 1), ("up", 1)],
            ["words 2", "uses 4", "room 0"],
        ])

    def test_clash(self):
        field = Field.read("up in")
        error = raised_by(field.press, "ups+")
        self.assertEqual([type(error), error.pair], [errors.PrefixError, ("up", "ups")])


class NewFields(unittest.TestCase):
    def test_is_empty(self):
        for kind in KINDS:
            field = kind()
            self.assertEqual([field.book, field.text, field.shown, field.entered, field.pressed], [[], "", None, [], 0])
            self.assertEqual([len(field), looks(field)[1:]], [0, [look(field)]])

    def test_kinds(self):
        self.assertTrue(issubclass(SmallField, Field) and issubclass(CountingField, Field))
        self.assertTrue(issubclass(SmallCountingField, SmallField) and issubclass(SmallCountingField, CountingField))
        self.assertFalse(issubclass(SmallField, CountingField) or issubclass(CountingField, SmallField))
        for kind in KINDS:
            self.assertEqual([kind.MOST, kind().MOST], [120, 120])
            self.assertIs(type(kind()), kind)

    def test_most(self):
        for kind in SMALL_KINDS:
            self.assertEqual([kind().most, kind(most=3).most, kind(7).most], [10, 3, 7])
            for most in range(1, 121):
                field = kind(most)
                self.assertEqual([field.most, len(field), field.report()[-1]], [most, 0, f"room {most}"])

    def test_invalid_most(self):
        for kind in SMALL_KINDS:
            for most in NOT_INTEGERS + [0, -1, -10, 121, 122, 10 ** 30, -10 ** 30]:
                with self.subTest(kind=kind, most=most):
                    self.assertIs(type(raised_by(kind, most)), errors.InvalidNumberError)

    def test_other_fields_have_no_most_and_no_counts(self):
        for kind in KINDS:
            self.assertEqual(hasattr(kind(), "most"), kind in SMALL_KINDS)
            self.assertEqual(hasattr(kind(), "counts"), kind in COUNTING_KINDS)


class Keys(unittest.TestCase):
    def test_is_key(self):
        for kind in KINDS:
            for key in LETTERS + "+-":
                self.assertIs(answer_of(kind.is_key, key), True)
                self.assertIs(kind().is_key(Text(key)), True)
            for value in NOT_KEYS:
                with self.subTest(value):
                    self.assertIs(answer_of(kind.is_key, value), False)

    def test_is_key_of_every_character(self):
        found = [chr(number) for number in range(0x3000) if Field.is_key(chr(number))]
        self.assertEqual("".join(found), "+-" + LETTERS)

    def test_letters(self):
        for kind in KINDS:
            field = kind()
            for length in range(1, 13):
                self.assertEqual(answer_of(field.press, LONG_WORD[length - 1]), [])
                self.assertEqual([field.text, field.pressed, field.book], [LONG_WORD[:length], length, []])
            self.assertIs(type(raised_by(field.press, "a")), errors.TooLongError)
            self.assertEqual([field.press("-m+"), field.text], [[LONG_WORD[:11] + "m"], ""])

    def test_twelve_letters_of_a_suggestion(self):
        for kind in KINDS:
            field = field_with(kind, [LONG_WORD], LONG_WORD)
            self.assertEqual(field.shown, LONG_WORD)
            for keys in ["a", "m", "-ma", "--aaa"]:
                self.assertIs(type(raised_by(field.press, keys)), errors.TooLongError)
            self.assertEqual([field.text, field.press("+"), field.text], [LONG_WORD, [LONG_WORD], ""])

    def test_removing_letters(self):
        for kind in KINDS:
            field = field_with(kind, [], "car")
            self.assertEqual([field.press("-"), field.text, field.press("t--"), field.text], [[], "ca", [], "c"])
            self.assertIs(type(raised_by(field.press, "--")), errors.NothingTypedError)
            self.assertEqual([field.text, field.press("-"), field.text, field.pressed], ["c", [], "", 8])
            self.assertIs(type(raised_by(field.press, "-")), errors.NothingTypedError)

    def test_accepting_suggestions(self):
        for kind in KINDS:
            for keys, word in [("", "dog"), ("c", "cow"), ("ca", "cat"), ("car", "car"), ("do", "dog"), ("x-", "dog")]:
                field = field_with(kind, B, keys)
                self.assertEqual([field.shown, field.press("+"), field.text, field.shown], [word, [word], "", word])
                self.assertEqual(field.book, [other for other in B if other != word] + [word])
                self.assertEqual(field.entered, B + [word])

    def test_accepting_new_words(self):
        for kind in KINDS:
            for word in ["a", "z", "dot", "cab", "cap", "co" + "c" * 10, LONG_WORD]:
                field = field_with(kind, B, word)
                self.assertEqual([field.shown, field.press("+"), field.text], [None, [word], ""])
                self.assertEqual([field.book, field.entered, field.shown], [B + [word], B + [word], word])

    def test_key_text_enters_the_word(self):
        for book in [B, chain_book(), wide_book()] + random_books(91, 20):
            field = Field.read(format_words(book))
            for word in book:
                keys = key_text(field.book, word)
                self.assertEqual([field.press(keys), field.book[-1]], [[word], word])

    def test_accepting_nothing(self):
        for kind in KINDS:
            for keys in ["+", "++", "a-+", "car----"]:
                field = kind()
                self.assertIs(type(raised_by(field.press, keys)), errors.NothingTypedError)
                self.assertEqual([field, field.pressed], [kind(), 0])

    def test_clashes(self):
        for kind in KINDS:
            for book, text, pair in [
                (B, "cars", ("car", "cars")), (["a"], LONG_WORD, ("a", LONG_WORD)),
                (["up", "in"], "ups", ("up", "ups")), (["z", "b", "a"], "bz", ("b", "bz")),
                ([LONG_WORD[:11], "z"], LONG_WORD, (LONG_WORD[:11], LONG_WORD)),
            ]:
                field = field_with(kind, book, text)
                before = looks(field)
                error = raised_by(field.press, "+")
                self.assertEqual([type(error), error.pair, type(error.pair)], [errors.PrefixError, pair, tuple])
                self.assertEqual([looks(field), field.text], [before, text])

    def test_a_beginning_of_a_word_is_no_clash(self):
        for kind in KINDS:
            field = field_with(kind, ["into", "up"], "in")
            self.assertEqual([field.shown, field.press("+"), field.book], ["into", ["into"], ["up", "into"]])

    def test_full_book(self):
        words = full_book()
        for kind in LARGE_KINDS:
            field = kind.read(format_words(words))
            for keys in ["zz+", "b+", "+zz+", "z+-"]:
                self.assertIs(type(raised_by(field.press, keys)), errors.FullError)
            self.assertEqual([looks(field), len(field)], [looks(kind.read(format_words(words))), 120])
            self.assertEqual(field.tried("a+", "zz", "--"), [words[-1:], [], []])
            self.assertEqual([field.press("+"), field.press(words[0] + "+")], [words[-1:], words[:1]])
            field.forget(words[5])
            self.assertEqual([field.press("zz+"), len(field), field.book[-1]], [["zz"], 120, "zz"])
            self.assertIs(type(raised_by(field.press, "y+")), errors.FullError)

    def test_order_of_the_errors_of_the_accept_key(self):
        for kind in LARGE_KINDS:
            words = ["up"] + full_book()[:119]
            field = kind.read(format_words(words))
            error = raised_by(field.press, "ups+")
            self.assertEqual([type(error), error.pair], [errors.PrefixError, ("up", "ups")])
            self.assertIs(type(raised_by(field.press, "us+")), errors.FullError)


class Press(unittest.TestCase):
    def test_no_keys(self):
        for kind in KINDS:
            field = used_field(kind)
            before = looks(field)
            self.assertEqual(answer_of(field.press, ""), [])
            self.assertEqual([look(field), looks(field)[2:]], [before[0], before[1:]])
            field.undo()
            self.assertEqual(looks(field), before)

    def test_invalid_keys(self):
        for kind in KINDS:
            for field in [kind(), used_field(kind)]:
                before = looks(field)
                for keys in NOT_KEY_STRINGS:
                    with self.subTest(kind=kind, keys=keys):
                        self.assertIs(type(raised_by(field.press, keys)), errors.InvalidKeysError)
                self.assertEqual(looks(field), before)

    def test_invalid_keys_come_before_other_errors(self):
        for kind in KINDS:
            for keys in ["- ", "+ ", "---\n", TOO_LONG_WORD + "A", "cars+1", ["-"], ("-",)]:
                self.assertIs(type(raised_by(field_with(kind, ["car"]).press, keys)), errors.InvalidKeysError)
                self.assertIs(type(raised_by(kind().press, keys)), errors.InvalidKeysError)

    def test_an_error_presses_no_key(self):
        for kind in KINDS:
            field = field_with(kind)
            before = looks(field)
            for keys, error in WRONG_KEYS:
                with self.subTest(kind=kind, keys=keys):
                    self.assertIs(type(raised_by(field.press, keys)), error)
                    self.assertEqual(looks(field), before)

    def test_words_of_the_call_count_at_once(self):
        field = Field()
        self.assertEqual(field.press("in+go+i+g+in+"), ["in", "go", "in", "go", "in"])
        error = raised_by(field.press, "up+zz+ups+")
        self.assertEqual([error.pair, field.book], [("up", "ups"), ["go", "in"]])

    def test_a_long_string(self):
        for kind in KINDS:
            field = kind()
            self.assertEqual(field.press("a" + "+" * 3999), ["a"] * 3999)
            self.assertEqual([field.pressed, field.book, len(field.entered)], [4000, ["a"], 3999])

    def test_strings_of_another_class(self):
        for kind in KINDS:
            field = kind()
            self.assertEqual(field.press(Text("car+ca")), ["car"])
            self.assertEqual([{type(word) for word in field.book}, type(field.text)], [{str}, str])


class Forget(unittest.TestCase):
    def test_only_the_book_changes(self):
        for kind in KINDS:
            for word in B:
                field = field_with(kind, B, "ca")
                self.assertIsNone(answer_of(field.forget, word))
                self.assertEqual(field.book, [other for other in B if other != word])
                self.assertEqual([field.text, field.entered, field.pressed, len(field)], ["ca", B, 18, 3])

    def test_while_its_letters_are_typed(self):
        for kind in KINDS:
            field = field_with(kind, ["dog", "car"], "ca")
            self.assertEqual(field.shown, "car")
            field.forget("car")
            self.assertEqual([field.shown, field.text], [None, "ca"])
            self.assertEqual([field.press("+"), field.book], [["ca"], ["dog", "ca"]])
            field.forget("ca")
            field.forget("dog")
            self.assertEqual([field.book, field.shown, field.entered], [[], None, ["dog", "car", "ca"]])
            self.assertIs(type(raised_by(field.press, "+")), errors.NothingTypedError)

    def test_then_longer_words_fit(self):
        for kind in KINDS:
            field = field_with(kind, ["car"], "cars")
            self.assertIs(type(raised_by(field.press, "+")), errors.PrefixError)
            field.forget("car")
            self.assertEqual([field.press("+"), field.book], [["cars"], ["cars"]])

    def test_invalid_word(self):
        for kind in KINDS:
            for field in [kind(), used_field(kind)]:
                before = looks(field)
                for value in NOT_WORDS:
                    with self.subTest(kind=kind, value=value):
                        self.assertIs(type(raised_by(field.forget, value)), errors.InvalidWordError)
                self.assertEqual(looks(field), before)

    def test_unknown_word(self):
        for kind in KINDS:
            for field in [kind(), used_field(kind)]:
                before = looks(field)
                for word in ["c", "ca", "cars", "dog", "zz", LONG_WORD]:
                    self.assertIs(type(raised_by(field.forget, word)), errors.UnknownWordError)
                self.assertEqual(looks(field), before)


class Undo(unittest.TestCase):
    def test_nothing_to_undo(self):
        for kind in KINDS:
            for field in [kind(), kind.read(format_words(B))]:
                before = looks(field)
                self.assertIs(type(raised_by(field.undo)), errors.EmptyHistoryError)
                self.assertEqual([looks(field), len(before)], [before, 2])

    def test_until_nothing_is_left(self):
        for kind in KINDS:
            field = kind.read("up in")
            seen = [look(field)]
            for keys in ["car+", "", "c", "a--", "+", "u+go+i", "zzz", "-"]:
                field.press(keys)
                seen.append(look(field))
            field.forget("up")
            while seen:
                self.assertIsNone(answer_of(field.undo))
                self.assertEqual(look(field), seen.pop())
            self.assertIs(type(raised_by(field.undo)), errors.EmptyHistoryError)
            self.assertEqual(look(field), look(kind.read("up in")))

    def test_calls_that_raised_an_error_do_not_count(self):
        for kind in KINDS:
            field = field_with(kind, ["car"])
            for keys in ["cars+", "-", TOO_LONG_WORD, "A", None]:
                raised_by(field.press, keys)
            raised_by(field.forget, "zz")
            raised_by(field.forget, "")
            raised_by(field.tried, "-")
            field.undo()
            field.undo()
            self.assertEqual([field.book, field.pressed], [[], 0])
            self.assertIs(type(raised_by(field.undo)), errors.EmptyHistoryError)

    def test_undone_calls_are_gone(self):
        for kind in KINDS:
            field = kind()
            field.press("an+")
            field.press("in+")
            field.undo()
            field.press("up+")
            self.assertEqual([field.book, field.entered, field.pressed], [["an", "up"], ["an", "up"], 6])
            field.undo()
            self.assertEqual([field.book, field.entered, field.pressed], [["an"], ["an"], 3])
            field.undo()
            self.assertIs(type(raised_by(field.undo)), errors.EmptyHistoryError)

    def test_words_that_were_forgotten_for_room_come_back(self):
        for kind in SMALL_KINDS:
            field = field_with(kind, ["an", "in", "up"], "", 2)
            self.assertEqual(field.book, ["in", "up"])
            field.undo()
            field.undo()
            self.assertEqual(field.book, ["an", "in"])

    def test_many_calls(self):
        for kind in KINDS:
            field = kind()
            seen = []
            for number in range(300):
                seen.append(look(field))
                field.press(LETTERS[number % 26] + "+")
            for row in seen[::-1]:
                field.undo()
                self.assertEqual(look(field), row)


class Tried(unittest.TestCase):
    def test_no_strings(self):
        for kind in KINDS:
            self.assertEqual(answer_of(kind().tried), [])

    def test_one_after_another(self):
        for kind in KINDS:
            field = used_field(kind)
            before = looks(field)
            presses = ["t+", "", "u", "-z+", "+c", "+", "+" * 50, "a" * 12, "-----------a+"]
            self.assertEqual(answer_of(field.tried, *presses), [
                ["cat"], [], [], ["z"], ["z"], ["cat"], ["cat"] * 50, [], ["aa"],
            ])
            self.assertEqual(looks(field), before)
            self.assertEqual(field.tried(*presses), [field.press(keys) for keys in presses])

    def test_twenty_strings(self):
        for kind in KINDS:
            field = kind()
            self.assertEqual(field.tried(*[letter + "+" for letter in LETTERS[:20]]), [[one] for one in LETTERS[:20]])
            self.assertEqual(looks(field), looks(kind()))

    def test_errors_change_nothing(self):
        for kind in KINDS:
            field = field_with(kind)
            before = looks(field)
            for keys, error in WRONG_KEYS + [(value, errors.InvalidKeysError) for value in NOT_KEY_STRINGS]:
                for presses in [(keys,), ("zz+z-", "", keys), (keys, "a"), ("+c", "-", keys, "--", None)]:
                    with self.subTest(kind=kind, presses=presses):
                        self.assertIs(type(raised_by(field.tried, *presses)), error)
                        self.assertEqual(looks(field), before)

    def test_the_first_call_that_fails_tells_the_error(self):
        for kind in KINDS:
            field = field_with(kind, ["car"])
            for presses, error in [
                (("-", None), errors.NothingTypedError), ((None, "-"), errors.InvalidKeysError),
                (("cars", "+", "--"), errors.PrefixError), (("", LONG_WORD, "a", "-"), errors.TooLongError),
            ]:
                self.assertIs(type(raised_by(field.tried, *presses)), error)

    def test_full_book(self):
        for kind in LARGE_KINDS:
            field = kind.read(format_words(full_book()[:119]))
            self.assertIs(type(raised_by(field.tried, "zz+", "y+")), errors.FullError)
            self.assertEqual([field.tried("zz+", "z+"), len(field)], [[["zz"], ["zz"]], 119])


class Copies(unittest.TestCase):
    def test_equal_and_of_the_same_class(self):
        for kind in KINDS:
            for field in [kind(), kind.read("up in"), used_field(kind)]:
                twin = answer_of(field.copy)
                self.assertIs(type(twin), kind)
                self.assertIsNot(twin, field)
                self.assertEqual([twin == field, looks(twin)], [True, looks(field)])

    def test_most(self):
        for kind in SMALL_KINDS:
            for most in [1, 2, 10, 120]:
                twin = field_with(kind, B, "", most).copy()
                self.assertEqual([twin.most, twin.book, twin.press("zz+")], [most, B[-most:], ["zz"]])
                self.assertEqual(twin.book, (B + ["zz"])[-most:])

    def test_independent(self):
        for kind in KINDS:
            field = used_field(kind)
            twin = field.copy()
            before = looks(field)
            twin.press("r+zz+")
            twin.forget("up")
            twin.undo()
            twin.undo()
            twin.undo()
            twin.undo()
            twin.press("x")
            self.assertEqual(looks(field), before)
            twin = field.copy()
            field.press("r+zz+a")
            field.forget("zz")
            self.assertEqual(looks(twin), before)
            for _ in range(4):
                field.undo()
            self.assertEqual(looks(twin), before)

    def test_copies_of_copies(self):
        for kind in KINDS:
            field = used_field(kind)
            twin = field.copy().copy()
            field.undo()
            twin.undo()
            self.assertEqual(looks(field), looks(twin))


class Properties(unittest.TestCase):
    def test_lists_are_new(self):
        for kind in KINDS:
            field = used_field(kind)
            before = looks(field)
            field.book.clear()
            field.entered.append("zz")
            field.report().clear()
            field.press("r+").append("zz")
            field.undo()
            field.tried("r+", "z")[0].append("zz")
            self.assertEqual(looks(field), before)
            self.assertIsNot(field.book, field.book)
            self.assertIsNot(field.entered, field.entered)
            self.assertEqual([type(field.book), type(field.entered), type(field.report())], [list] * 3)

    def test_counts(self):
        for kind in COUNTING_KINDS:
            field = kind()
            self.assertEqual(field.counts, [])
            field.press("up+in+up+an+up+in+")
            self.assertEqual(field.counts, [("an", 1), ("in", 2), ("up", 3)])
            field.counts.clear()
            field.forget("in")
            self.assertEqual(field.counts, [("an", 1), ("in", 2), ("up", 3)])
            self.assertEqual(field.report()[:2], ["words 2", "uses 6"])
            field.press("z")
            field.undo()
            field.undo()
            field.undo()
            self.assertEqual([field.counts, field.report()[:2]], [[], ["words 0", "uses 0"]])
            self.assertEqual([type(field.counts), type(field_with(kind).counts[0])], [list, tuple])

    def test_words_of_the_book_that_were_read_are_not_used(self):
        for kind in KINDS:
            field = kind.read("up in")
            self.assertEqual([field.entered, field.pressed, field.shown], [[], 0, "in"])
            if kind in COUNTING_KINDS:
                self.assertEqual([field.counts, field.report()[1]], [[], "uses 0"])

    def test_reports(self):
        expected = {
            Field: ["words 3"], SmallField: ["words 3", "room 7"], CountingField: ["words 3", "uses 5"],
            SmallCountingField: ["words 3", "uses 5", "room 7"],
        }
        for kind in KINDS:
            field = field_with(kind, ["an", "in", "up", "an", "in"])
            self.assertEqual(answer_of(field.report), expected[kind])

    def test_cannot_be_assigned(self):
        for kind in KINDS:
            field = kind()
            for name in ["book", "text", "shown", "entered", "pressed"] + [
                    name for name in ["most", "counts"] if hasattr(field, name)]:
                self.assertRaises(AttributeError, setattr, field, name, None)

    def test_of_kinds(self):
        field = used_field(Field)
        self.assertEqual([type(field.text), type(field.shown), type(field.pressed), type(len(field))],
                         [str, str, int, int])


class SmallFields(unittest.TestCase):
    def test_the_first_word_is_forgotten(self):
        for kind in SMALL_KINDS:
            for most in [1, 2, 3, 9, 10, 25]:
                field = kind(most)
                for number, letter in enumerate(LETTERS):
                    self.assertEqual(field.press(letter + "+"), [letter])
                    self.assertEqual(field.book, list(LETTERS[:number + 1][-most:]))
                    self.assertEqual(field.report()[-1], f"room {max(most - number - 1, 0)}")
                self.assertEqual(field.entered, list(LETTERS))

    def test_a_known_word_forgets_none(self):
        for kind in SMALL_KINDS:
            field = field_with(kind, ["an", "in", "up"], "", 3)
            self.assertEqual([field.press("a+i++"), field.book], [["an", "in", "in"], ["up", "an", "in"]])

    def test_a_forgotten_word_is_new(self):
        for kind in SMALL_KINDS:
            field = field_with(kind, ["an", "in", "up"], "", 2)
            self.assertEqual([field.press("a+"), field.book], [["a"], ["up", "a"]])

    def test_a_clash_is_looked_for_before_a_word_is_forgotten(self):
        for kind in SMALL_KINDS:
            for most, book, text, pair in [
                (1, ["up"], "ups", ("up", "ups")), (2, ["up", "in"], "ups", ("up", "ups")),
                (2, ["up", "in"], "inn", ("in", "inn")), (3, ["a", "b", "c"], "az", ("a", "az")),
            ]:
                field = field_with(kind, book, text, most)
                before = looks(field)
                error = raised_by(field.press, "+")
                self.assertEqual([type(error), error.pair], [errors.PrefixError, pair])
                self.assertEqual(looks(field), before)

    def test_one_word(self):
        for kind in SMALL_KINDS:
            field = kind(1)
            self.assertEqual([field.press("an+in+an+"), field.book], [["an", "in", "an"], ["an"]])
            field.forget("an")
            self.assertEqual([field.book, field.report()[-1], field.press("in+")], [[], "room 1", ["in"]])

    def test_the_greatest_most_has_no_full_error(self):
        words = full_book(125)
        for kind in SMALL_KINDS:
            field = kind(120)
            for word in words:
                self.assertEqual(field.press(word + "+"), [word])
            self.assertEqual([field.book, len(field), field.report()[-1]], [words[5:], 120, "room 0"])

    def test_room_after_forgetting(self):
        for kind in SMALL_KINDS:
            field = field_with(kind, ["an", "in", "up"], "", 3)
            field.forget("in")
            self.assertEqual([field.report()[-1], field.press("go+")], ["room 1", ["go"]])
            self.assertEqual([field.report()[-1], field.book], ["room 0", ["an", "up", "go"]])


class Equality(unittest.TestCase):
    def check_equal(self, one, two):
        self.assertIs(one == two, True)
        self.assertIs(two == one, True)
        self.assertIs(one != two, False)

    def check_different(self, one, two):
        self.assertIs(one == two, False)
        self.assertIs(two == one, False)
        self.assertIs(one != two, True)

    def test_equal(self):
        for kind in KINDS:
            self.check_equal(kind(), kind())
            self.check_equal(used_field(kind), used_field(kind))
            self.check_equal(kind.read("up in"), kind.read("up in"))
            field = used_field(kind)
            self.check_equal(field, field)

    def test_keys_and_calls_make_no_difference(self):
        for kind in KINDS:
            one, two = kind(), kind()
            one.press("in+up+")
            for keys in ["i", "n", "x-", "+", "", "up+"]:
                two.press(keys)
            self.assertNotEqual(one.pressed, two.pressed)
            self.check_equal(one, two)
            other = kind()
            other.press("in--")
            self.check_equal(other, kind())

    def test_other_books_texts_or_used_words(self):
        for kind in KINDS:
            fields = [
                kind(), kind.read("up in"), kind.read("in up"), kind.read("up"), field_with(kind, ["up", "in"]),
                field_with(kind, ["in", "up"]), field_with(kind, ["up", "in"], "u"),
                field_with(kind, ["up", "in"], "up"), field_with(kind, ["up", "up", "in"]), field_with(kind, [], "u"),
                field_with(kind, ["up", "in", "up"]), field_with(kind, ["up", "in", "up", "in"]),
            ]
            for place, one in enumerate(fields):
                for two in fields[:place]:
                    self.check_different(one, two)

    def test_most(self):
        for kind in SMALL_KINDS:
            self.check_equal(kind(), kind(10))
            self.check_different(kind(), kind(9))
            self.check_different(field_with(kind, B, "", 5), field_with(kind, B, "", 6))
            self.check_equal(field_with(kind, B, "", 5), field_with(kind, B, "", 5))

    def test_other_classes(self):
        for place, one in enumerate(KINDS):
            for two in KINDS[:place]:
                self.check_different(one(), two())
                self.check_different(one.read("up in"), two.read("up in"))
                self.check_different(used_field(one), used_field(two))

    def test_a_class_of_ones_own(self):
        for kind in KINDS:
            own = type("Own", (kind,), {})
            self.check_equal(own.read("up"), own.read("up"))
            self.check_different(own.read("up"), kind.read("up"))
            self.assertIs(type(own.read("up").copy()), own)

    def test_other_values(self):
        for kind in KINDS:
            for field in [kind(), kind.read("up")]:
                for value in [None, True, False, 0, 1, "", "up", [], ["up"], (), {}, object(), kind, Row()]:
                    self.check_different(field, value)


class Read(unittest.TestCase):
    def test_there_and_back(self):
        for kind in KINDS:
            for book in [[], ["a"], B, ["up", "in"], [LONG_WORD], list(LETTERS[:10])]:
                field = answer_of(kind.read, format_words(book))
                self.assertIs(type(field), kind)
                self.assertEqual([field.book, field.text, field.entered, field.pressed], [book, "", [], 0])
                self.assertEqual(looks(field)[1:], [look(field)])
                if kind in SMALL_KINDS:
                    self.assertEqual(field.most, 10)

    def test_most_words(self):
        for kind in LARGE_KINDS:
            for book in [full_book(), full_book()[:119], chain_book(), wide_book()]:
                self.assertEqual(kind.read(format_words(book)).book, book)
            self.assertIs(type(raised_by(kind.read, format_words(full_book(121)))), errors.InvalidFormatError)
            self.assertIs(type(raised_by(kind.read, format_words(full_book(130)))), errors.InvalidFormatError)
        for kind in SMALL_KINDS:
            self.assertEqual(kind.read(format_words(list(LETTERS[:10]))).report()[-1], "room 0")
            for many in [11, 12, 26]:
                text = format_words(list(LETTERS[:many]))
                self.assertIs(type(raised_by(kind.read, text)), errors.InvalidFormatError)
            self.assertIs(type(raised_by(kind.read, format_words(full_book()))), errors.InvalidFormatError)

    def test_invalid_text(self):
        for kind in KINDS:
            for value in NOT_STRINGS + [
                " ", "\n", " up", "up ", "up  in", "up in ", "up\nin", "Up", "up In", "up,in", "up+", "a1",
                TOO_LONG_WORD, "in into", "into in", "up up", "up in up", "a an", "up in inn", "a" * 4000, ":u",
                "caf\u00e9", "up\u00a0in",
            ]:
                with self.subTest(kind=kind, value=value):
                    self.assertIs(type(raised_by(kind.read, value)), errors.InvalidFormatError)

    def test_off_an_object(self):
        for kind in KINDS:
            field = used_field(kind)
            before = looks(field)
            other = field.read("up in")
            self.assertEqual([type(other), other.book, looks(field)], [kind, ["up", "in"], before])

    def test_works_on(self):
        for kind in KINDS:
            field = kind.read("car cat cow dog")
            self.assertEqual([field.shown, field.press("c+up+")], ["dog", ["cow", "up"]])
            self.assertEqual(field.book, ["car", "cat", "dog", "cow", "up"])


class GeneralRules(unittest.TestCase):
    def test_by_name(self):
        for kind in KINDS:
            field = kind.read(text="up in")
            self.assertEqual([field.press(keys="u+"), field.forget(word="up"), field.book], [["up"], None, ["in"]])
            self.assertIs(kind.is_key(value="+"), True)
        self.assertEqual([SmallField(most=3).most, SmallCountingField(most=4).most], [3, 4])

    def test_each_kind_of_argument_only(self):
        for kind in LARGE_KINDS:
            self.assertRaises(TypeError, kind, 10)
        for kind in KINDS:
            self.assertRaises(TypeError, kind().press)
            self.assertRaises(TypeError, kind().press, "a", "b")

    def test_fields_do_not_share_anything(self):
        for kind in KINDS:
            one, two = kind(), kind()
            one.press("up+i")
            self.assertEqual([look(two), looks(two)[1:]], [look(kind()), [look(kind())]])

    def test_against_a_slow_field(self):
        source = random.Random(92)
        for number in range(160):
            kind = KINDS[number % 4]
            room = (source.choice([1, 2, 3, 5, 10, 120]),) if kind in SMALL_KINDS else ()
            self.run_calls(source, kind(*room), SlowField(kind, *room), 40)

    def test_large_fields_against_a_slow_field(self):
        source = random.Random(93)
        for book in [full_book(), chain_book(), wide_book(), full_book()[:118]] + random_books(94, 6):
            for kind in LARGE_KINDS:
                self.run_calls(source, kind.read(format_words(book)), SlowField(kind, book=book), 15)

    def run_calls(self, source, field, slow, many):
        for _ in range(many):
            name = source.choice(["press"] * 5 + ["forget", "undo", "tried", "copy"])
            if name == "copy":
                field = field.copy()
            elif name == "tried":
                self.check_tried(field, slow, [self.some_keys(source) for _ in range(source.randrange(4))])
            elif name == "press":
                self.check_call(field, slow, name, self.some_keys(source))
            elif name == "forget":
                self.check_call(field, slow, name, source.choice(field.book + ["ab", "b", "zz"]))
            else:
                self.check_call(field, slow, name)
            self.assertEqual(look(field), slow.look())
        self.assertEqual(looks(field), slow.looks())

    def some_keys(self, source):
        letters = source.choice(["ab", "abc", LETTERS])
        return "".join(source.choice(letters + "++-") for _ in range(source.choice([0, 1, 2, 3, 5, 8, 14])))

    def outcome(self, field, name, *args):
        try:
            return getattr(field, name)(*args)
        except errors.GhosttextError as error:
            return [type(error), getattr(error, "pair", None)]

    def check_call(self, field, slow, name, *args):
        self.assertEqual(self.outcome(field, name, *args), self.outcome(slow, name, *args))

    def check_tried(self, field, slow, presses):
        now, earlier = slow.now, list(slow.earlier)
        expected = [self.outcome(slow, "press", keys) for keys in presses]
        slow.now, slow.earlier = now, earlier
        wrong = [row for row in expected if row and isinstance(row[0], type)]
        self.assertEqual(self.outcome(field, "tried", *presses), wrong[0] if wrong else expected)


if __name__ == "__main__":
    unittest.main()
