"""Input fields that are used key by key.

Each class has every method and property in its own body, as the interface asks for it.
"""

from ghosttext.errors import EmptyHistoryError, FullError
from ghosttext.integers import check_integer
from ghosttext.presses import ACCEPT, check_keys, check_new_word, count_uses, is_one_key, text_after
from ghosttext.suggestions import last_with
from ghosttext.text import parse_book
from ghosttext.words import check_known_word, play_uses


class Field:
    """A field with a book and a typed text."""

    MOST = 120

    def __init__(self):
        # The list is replaced and never changed, so that kept calls and copies may share it.
        self._book = []
        self._text = ""
        self._entered = []
        self._pressed = 0
        # What each call that can be undone goes back to; of the used words their number is enough.
        self._calls = []

    @staticmethod
    def is_key(value):
        """Return whether any value is a key."""
        return is_one_key(value)

    @classmethod
    def read(cls, text):
        """Return a field of this class whose book has this string."""
        field = cls()
        field._book = parse_book(text, Field.MOST)
        return field

    @property
    def book(self):
        """The words, in the order of their last uses."""
        return list(self._book)

    @property
    def text(self):
        """The typed text."""
        return self._text

    @property
    def shown(self):
        """The suggestion for the typed text, or None."""
        return last_with(self._book, self._text)

    @property
    def entered(self):
        """All used words, in order."""
        return list(self._entered)

    @property
    def pressed(self):
        """The number of all keys."""
        return self._pressed

    def press(self, keys):
        """Press the keys of a string; return the used words."""
        check_keys(keys)
        book, text, used = self._book, self._text, []
        for key in keys:
            if key == ACCEPT:
                word, book = self._accept(book, text)
                used.append(word)
                text = ""
            else:
                text = text_after(text, key)
        self._keep_call()
        self._book, self._text = book, text
        self._entered.extend(used)
        self._pressed += len(keys)
        return used

    def tried(self, *presses):
        """Return what calls of press with these strings would return."""
        twin = self.copy()
        return [twin.press(keys) for keys in presses]

    def forget(self, word):
        """Remove a word from the book."""
        check_known_word(self._book, word)
        self._keep_call()
        self._book = [other for other in self._book if other != word]

    def undo(self):
        """Revert the last press or forget that is not reverted."""
        if len(self._calls) == 0:
            raise EmptyHistoryError("there is no call to undo")
        self._book, self._text, many, self._pressed = self._calls.pop()
        self._entered = self._entered[:many]

    def copy(self):
        """Return an independent equal field with the same calls to undo."""
        # Called off an object, `read` makes a field of the object's class.
        twin = self.read("")
        twin._book = self._book
        twin._text = self._text
        twin._entered = list(self._entered)
        twin._pressed = self._pressed
        twin._calls = list(self._calls)
        return twin

    def report(self):
        """Return lines that tell how much the field holds."""
        return [f"words {len(self._book)}"]

    def __eq__(self, other):
        if not isinstance(other, Field):
            return False
        return type(self) is type(other) and self._looks_like(other)

    def __len__(self):
        return len(self._book)

    def _accept(self, book, text):
        word = last_with(book, text)
        if word is not None:
            return word, play_uses(book, [word])
        check_new_word(book, text)
        return text, play_uses(self._with_room(book), [text])

    def _with_room(self, book):
        """Return the book to which a new word is added."""
        if len(book) >= Field.MOST:
            raise FullError("the book has the greatest number of words")
        return book

    def _keep_call(self):
        self._calls.append((self._book, self._text, len(self._entered), self._pressed))

    def _looks_like(self, other):
        return self._book == other._book and self._text == other._text and self._entered == other._entered


class SmallField(Field):
    """A field that forgets its first word if a new one has no room."""

    def __init__(self, most=10):
        check_integer(most, 1, Field.MOST)
        super().__init__()
        self._most = most

    @staticmethod
    def is_key(value):
        return is_one_key(value)

    @classmethod
    def read(cls, text):
        field = cls()
        field._book = parse_book(text, field._most)
        return field

    @property
    def book(self):
        return list(self._book)

    @property
    def text(self):
        return self._text

    @property
    def shown(self):
        return last_with(self._book, self._text)

    @property
    def entered(self):
        return list(self._entered)

    @property
    def pressed(self):
        return self._pressed

    @property
    def most(self):
        """The greatest number of words in the book."""
        return self._most

    def press(self, keys):
        return super().press(keys)

    def tried(self, *presses):
        return super().tried(*presses)

    def forget(self, word):
        super().forget(word)

    def undo(self):
        super().undo()

    def copy(self):
        twin = super().copy()
        twin._most = self._most
        return twin

    def report(self):
        return super().report() + [f"room {self._most - len(self._book)}"]

    def __eq__(self, other):
        if not isinstance(other, SmallField):
            return False
        return type(self) is type(other) and self._looks_like(other)

    def __len__(self):
        return len(self._book)

    def _with_room(self, book):
        return book[1:] if len(book) >= self._most else book

    def _looks_like(self, other):
        return self._most == other._most and super()._looks_like(other)


class CountingField(Field):
    """A field that counts the uses of each word."""

    def __init__(self):
        super().__init__()

    @staticmethod
    def is_key(value):
        return is_one_key(value)

    @classmethod
    def read(cls, text):
        field = cls()
        field._book = parse_book(text, Field.MOST)
        return field

    @property
    def book(self):
        return list(self._book)

    @property
    def text(self):
        return self._text

    @property
    def shown(self):
        return last_with(self._book, self._text)

    @property
    def entered(self):
        return list(self._entered)

    @property
    def pressed(self):
        return self._pressed

    @property
    def counts(self):
        """The used words, each with the number of its uses."""
        return count_uses(self._entered)

    def press(self, keys):
        return super().press(keys)

    def tried(self, *presses):
        return super().tried(*presses)

    def forget(self, word):
        super().forget(word)

    def undo(self):
        super().undo()

    def copy(self):
        return super().copy()

    def report(self):
        return super().report() + [f"uses {len(self._entered)}"]

    def __eq__(self, other):
        if not isinstance(other, CountingField):
            return False
        return type(self) is type(other) and self._looks_like(other)

    def __len__(self):
        return len(self._book)


class SmallCountingField(SmallField, CountingField):
    """A field that forgets words and counts the uses of each one."""

    def __init__(self, most=10):
        super().__init__(most)

    @staticmethod
    def is_key(value):
        return is_one_key(value)

    @classmethod
    def read(cls, text):
        field = cls()
        field._book = parse_book(text, field._most)
        return field

    @property
    def book(self):
        return list(self._book)

    @property
    def text(self):
        return self._text

    @property
    def shown(self):
        return last_with(self._book, self._text)

    @property
    def entered(self):
        return list(self._entered)

    @property
    def pressed(self):
        return self._pressed

    @property
    def most(self):
        return self._most

    @property
    def counts(self):
        return count_uses(self._entered)

    def press(self, keys):
        return super().press(keys)

    def tried(self, *presses):
        return super().tried(*presses)

    def forget(self, word):
        super().forget(word)

    def undo(self):
        super().undo()

    def copy(self):
        return super().copy()

    def report(self):
        # The bases stand in the order in which this adds uses before room.
        return super().report()

    def __eq__(self, other):
        if not isinstance(other, SmallCountingField):
            return False
        return type(self) is type(other) and self._looks_like(other)

    def __len__(self):
        return len(self._book)
