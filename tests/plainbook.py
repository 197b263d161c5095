"""A book by the plain words of points 81 to 86, to be laid beside the package's own. Refusals are told as tuples."""

from failslack.errors import (BadPieces, NoFailing, NoPiece, NoRest, NoWord, Over, Past, SlackError, Waits)


def is_number(thing, low, high):
    return type(thing) is int and low <= thing <= high


def first_too_short(rows, failings):
    """The first stretch whose need is greater than its room, by adding up for each; None where there is none."""
    for start in sorted({row[1] for row in rows}):
        for end in sorted({row[2] for row in rows}):
            inside = [row for row in rows if row[1] >= start and row[2] <= end]
            if inside:
                need = sum(row[4] for row in inside) + failings * max(row[3] for row in inside)
                if need > end - start + 1:
                    return (start, end)
    return None


class Refusal(Exception):
    """What the book is to be refused with, as a tuple of the class's name and of its values."""


class PlainBook:
    def __init__(self, failings):
        self.turn = 0
        self.left = failings
        self.rows = []
        self.words = {}
        self.done_things = []

    def standing(self, turn=None):
        turn = self.turn if turn is None else turn
        return [(name, min(max(first, turn), last + 1), last, length, left)
                for name, first, last, length, left in self.rows]

    def asked_row(self, name, first, last, length):
        signs = "abcdefghijklmnopqrstuvwxyz0123456789"
        if not isinstance(name, str) or not 1 <= len(name) <= 8 or any(sign not in signs for sign in name) \
                or name[0] in "0123456789":
            raise Refusal("BadPieces", 0, "name")
        if not is_number(first, 0, 200):
            raise Refusal("BadPieces", 0, "first")
        if not is_number(last, 0, 199) or last < first - 1:
            raise Refusal("BadPieces", 0, "last")
        if not is_number(length, 1, 12):
            raise Refusal("BadPieces", 0, "length")
        if name in [row[0] for row in self.rows]:
            raise Refusal("BadPieces", 0, "double")
        if len(self.rows) >= 30:
            raise Refusal("BadPieces", 30, "many")
        if last < self.turn:
            raise Refusal("Past", last)
        return (name, min(max(first, self.turn), last + 1), last, length, length)

    def ask(self, name, first, last, length):
        row = self.asked_row(name, first, last, length)
        stretch = first_too_short([*self.standing(), row], self.left)
        if stretch is None:
            self.rows.append([name, first, last, length, length])
            self.done_things.append(("ask", name, "kept"))
            return ("kept", self.left)
        self.words[name] = "refused"
        self.done_things.append(("ask", name, "crowd"))
        return ("crowd", self.left, *stretch)

    def turn_comes(self):
        if self.turn == 200:
            raise Refusal("Over")
        for row in self.rows:
            if row[4] == 0:
                raise Refusal("Waits", row[0])

    def work(self):
        self.turn_comes()
        best = None
        for row in self.rows:
            if row[1] <= self.turn and (best is None or row[2] < best[2]):
                best = row
        if best is not None:
            best[4] -= 1
        name = best and best[0]
        self.done_things.append(("work", self.turn, name))
        self.turn += 1
        return name

    def rest(self):
        self.turn_comes()
        stretch = first_too_short(self.standing(self.turn + 1), self.left)
        if stretch is not None:
            raise Refusal("NoRest", *stretch)
        self.done_things.append(("rest", self.turn))
        self.turn += 1

    def ended(self):
        for row in self.rows:
            if row[4] == 0:
                return row
        raise Refusal("NoWord")

    def failed(self):
        row = self.ended()
        if self.left == 0:
            raise Refusal("NoFailing")
        self.left -= 1
        row[4] = row[3]
        self.done_things.append(("failed", row[0]))
        return row[0]

    def done(self):
        row = self.ended()
        self.rows.remove(row)
        self.words[row[0]] = "done"
        self.done_things.append(("done", row[0]))
        return row[0]

    def find(self, name):
        for row in self.rows:
            if row[0] == name:
                return row
        raise Refusal("NoPiece", name)

    def call_off(self, name):
        self.rows.remove(self.find(name))
        self.words[name] = "off"
        self.done_things.append(("off", name))

    def longer(self, name, last):
        row = self.find(name)
        if not is_number(last, row[2] + 1, 199):
            raise Refusal("BadPieces", 0, "last")
        row[2] = last
        self.done_things.append(("longer", name, last))

    def state(self, name):
        for row in self.rows:
            if row[0] == name:
                return "ended" if row[4] == 0 else "waiting" if row[4] == row[3] else "begun"
        if name in self.words.keys():
            return self.words[name]
        raise Refusal("NoPiece", name)

    def bears(self):
        if not self.rows:
            return None
        return max(number for number in range(-1, 201)
                   if number == -1 or first_too_short(self.standing(), number) is None)


VALUES = {
    BadPieces: ("at", "why"), NoPiece: ("found",), Past: ("last",), Waits: ("name",), NoRest: ("start", "end"),
    NoFailing: (), NoWord: (), Over: (),
}


def answer(call, *handed):
    """What a call tells, and how it is refused, in one form for both books."""
    try:
        told = call(*handed)
    except Refusal as error:
        return ("refused", *error.args)
    except SlackError as error:
        return ("refused", type(error).__name__, *[getattr(error, value) for value in VALUES[type(error)]])
    return ("told", told.told() if hasattr(told, "told") else told)


def all_told(book):
    """All that a book tells, to see whether it changed."""
    return (book.now(), book.failings_left(), book.pieces().told(), book.bears(), book.latest(), book.history(),
            [book.state(name) for name in sorted({deed[1] for deed in book.history() if deed[0] == "ask"})])
