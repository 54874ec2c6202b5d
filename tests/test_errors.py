"""The error classes of [5]."""

import inspect
import unittest

from ghosttext import errors

PLAIN = [
    "InvalidWordError", "InvalidBookError", "InvalidHistoryError", "InvalidTextError", "InvalidStateError",
    "InvalidKeysError", "InvalidNumberError", "InvalidFormatError", "UnknownWordError", "DifferentWordsError",
    "TooLongError", "NothingTypedError", "FullError", "EmptyHistoryError",
]
WITH_VALUE = {"PrefixError": "pair", "ImpossibleKeysError": "beginning"}
ALL = PLAIN + list(WITH_VALUE)


class ErrorClasses(unittest.TestCase):
    def test_base_class(self):
        self.assertEqual(errors.GhosttextError.__bases__, (ValueError,))
        self.assertIsInstance(errors.GhosttextError("text"), ValueError)

    def test_sixteen_direct_subclasses(self):
        self.assertEqual(len(ALL), 16)
        for name in ALL:
            with self.subTest(name):
                self.assertEqual(getattr(errors, name).__bases__, (errors.GhosttextError,))

    def test_there_are_no_other_classes(self):
        found = [name for name, value in vars(errors).items() if inspect.isclass(value)]
        self.assertEqual(sorted(found), sorted(ALL + ["GhosttextError"]))

    def test_each_is_defined_in_the_file(self):
        for name in ALL + ["GhosttextError"]:
            self.assertEqual(getattr(errors, name).__module__, "ghosttext.errors")

    def test_no_class_is_an_instance_of_another_one(self):
        for name in ALL:
            error = getattr(errors, name)("ab")
            for other in ALL:
                with self.subTest(name=name, other=other):
                    self.assertEqual(isinstance(error, getattr(errors, other)), name == other)

    def test_plain_classes_take_one_string(self):
        for name in PLAIN + ["GhosttextError"]:
            with self.subTest(name):
                with self.assertRaises(ValueError) as caught:
                    raise getattr(errors, name)("what is wrong")
                self.assertEqual(str(caught.exception), "what is wrong")

    def test_attributes_by_position_and_by_keyword(self):
        pair = ("in", "into")
        self.assertEqual(errors.PrefixError(pair).pair, ("in", "into"))
        self.assertEqual(errors.PrefixError(pair=pair).pair, ("in", "into"))
        for beginning in ["", "c", "abcdefghijk", None]:
            self.assertEqual(errors.ImpossibleKeysError(beginning).beginning, beginning)
            self.assertEqual(errors.ImpossibleKeysError(beginning=beginning).beginning, beginning)

    def test_value_is_required_and_is_the_only_one(self):
        for name in WITH_VALUE:
            kind = getattr(errors, name)
            self.assertRaises(TypeError, kind)
            self.assertRaises(TypeError, kind, "a", "b")
            self.assertRaises(TypeError, kind, other="a")

    def test_attributes_belong_to_the_object(self):
        first, second = errors.PrefixError(("a", "an")), errors.PrefixError(("i", "in"))
        self.assertEqual([first.pair, second.pair], [("a", "an"), ("i", "in")])
        self.assertEqual(vars(first), {"pair": ("a", "an")})
        self.assertEqual(vars(errors.ImpossibleKeysError("c")), {"beginning": "c"})

    def test_messages_exist(self):
        self.assertIn("into", str(errors.PrefixError(("in", "into"))))
        self.assertTrue(str(errors.ImpossibleKeysError(beginning=None)))


if __name__ == "__main__":
    unittest.main()
