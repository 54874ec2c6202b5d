"""What the tests of fields have in common: a slow field, and looks at all that a field tells."""

from ghosttext import errors
from ghosttext.field import CountingField, Field, SmallCountingField, SmallField
from tests.samples import slow_suggestion

KINDS = [Field, SmallField, CountingField, SmallCountingField]
SMALL_KINDS = [SmallField, SmallCountingField]
COUNTING_KINDS = [CountingField, SmallCountingField]
LARGE_KINDS = [Field, CountingField]


def look(field):
    """Return all that a field tells."""
    rows = [type(field), field.book, field.text, field.shown, field.entered, field.pressed, len(field), field.report()]
    if isinstance(field, SmallField):
        rows.append(field.most)
    if isinstance(field, CountingField):
        rows.append(field.counts)
    return rows


def looks(field):
    """Return what a field tells now and after each call of undo, on a copy of it."""
    twin = field.copy()
    rows = [look(field), look(twin)]
    while True:
        try:
            twin.undo()
        except errors.EmptyHistoryError:
            return rows
        rows.append(look(twin))


class SlowField:
    """A field that keeps everything and works it out anew, letter by letter."""

    def __init__(self, kind, *room, book=()):
        self.kind = kind
        self.most = room[0] if room else 10 if kind in SMALL_KINDS else 120
        self.now = (list(book), "", [], 0)
        self.earlier = []

    def press(self, keys):
        book, text, entered, pressed = self.now
        many = len(entered)
        for key in keys:
            book, text, entered = self.after_key(book, text, entered, key)
        self.earlier.append(self.now)
        self.now = (book, text, entered, pressed + len(keys))
        return entered[many:]

    def after_key(self, book, text, entered, key):
        if key not in "+-":
            if len(text) == 12:
                raise errors.TooLongError("")
            return book, text + key, entered
        if key == "-":
            if text == "":
                raise errors.NothingTypedError("")
            return book, text[:-1], entered
        word = slow_suggestion(book, text)
        if word is None:
            word = text
            book = self.with_room(book, word)
        return [other for other in book if other != word] + [word], "", entered + [word]

    def with_room(self, book, word):
        if word == "":
            raise errors.NothingTypedError("")
        pairs = [(other, word) for other in book if word.startswith(other)]
        if pairs:
            raise errors.PrefixError(min(pairs))
        if len(book) < self.most:
            return book
        if self.kind in LARGE_KINDS:
            raise errors.FullError("")
        return book[1:]

    def forget(self, word):
        book, text, entered, pressed = self.now
        if word not in book:
            raise errors.UnknownWordError("")
        self.earlier.append(self.now)
        self.now = ([other for other in book if other != word], text, entered, pressed)

    def undo(self):
        if not self.earlier:
            raise errors.EmptyHistoryError("")
        self.now = self.earlier.pop()

    def look(self):
        book, text, entered, pressed = self.now
        lines = [f"words {len(book)}"]
        if self.kind in COUNTING_KINDS:
            lines.append(f"uses {len(entered)}")
        if self.kind in SMALL_KINDS:
            lines.append(f"room {self.most - len(book)}")
        rows = [self.kind, book, text, slow_suggestion(book, text), entered, pressed, len(book), lines]
        if self.kind in SMALL_KINDS:
            rows.append(self.most)
        if self.kind in COUNTING_KINDS:
            rows.append(sorted((word, entered.count(word)) for word in set(entered)))
        return rows

    def looks(self):
        now, earlier = self.now, list(self.earlier)
        rows = [self.look(), self.look()]
        while self.earlier:
            self.undo()
            rows.append(self.look())
        self.now, self.earlier = now, earlier
        return rows
