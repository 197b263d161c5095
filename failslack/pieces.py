"""Pieces of work: rows that are looked at once, and never change behind that."""

from failslack.errors import BadPieces, NoPiece, NoTurn
from failslack.words import is_name, is_within

MOST_PIECES = 30
LAST_TURN = 199
MOST_LENGTH = 12


def fault_of(row, ahead):
    """The first word that is due of a row, by the names in the rows ahead of it; None where it is good."""
    if not isinstance(row, tuple) or len(row) not in (4, 5):
        return "form"
    if not is_name(row[0]):
        return "name"
    if row[0] in ahead:
        return "double"
    if not is_within(row[1], 0, LAST_TURN + 1):
        return "first"
    if not is_within(row[2], max(0, row[1] - 1), LAST_TURN):
        return "last"
    if not is_within(row[3], 1, MOST_LENGTH):
        return "length"
    if len(row) == 5 and not is_within(row[4], 0, row[3]):
        return "left"
    return None


def whole_row(row):
    """A good row as five things: the whole length is left where nothing else is told."""
    left = row[4] if len(row) == 5 else row[3]
    return (row[0], row[1], row[2], row[3], left)


def good_rows(rows):
    """The rows as a tuple of tuples of five things, refused with BadPieces where they are no pieces."""
    if not isinstance(rows, (list, tuple)):
        raise BadPieces(None, "form")
    if len(rows) > MOST_PIECES:
        raise BadPieces(MOST_PIECES, "many")
    good = []
    ahead = []
    for at, row in enumerate(rows):
        why = fault_of(row, ahead)
        if why is not None:
            raise BadPieces(at, why)
        good.append(whole_row(row))
        ahead.append(row[0])
    return tuple(good)


def need_turn(thing):
    """Refuses what is no turn that may come next: all turns, and the one behind them."""
    if not is_within(thing, 0, LAST_TURN + 1):
        raise NoTurn(thing)


def row_since(row, now):
    """A row whose first turn is not ahead of now, but at most the turn behind its last one."""
    first = min(max(row[1], now), row[2] + 1)
    return (row[0], first, row[2], row[3], row[4])


class Pieces:
    """Pieces, made of a list or a tuple of rows (name, first, last, length), perhaps with what is left."""

    def __init__(self, rows):
        self.held = good_rows(rows)

    def told(self):
        """All rows, each of five things, in their order."""
        return self.held

    def names(self):
        """All names, in their order."""
        return [row[0] for row in self.held]

    def has(self, thing):
        """Whether it is the name of a piece."""
        # A list is asked, as the thing need not be one that can be a key.
        return thing in self.names()

    def row(self, name):
        """The row of this name."""
        return self.held[self.place(name)]

    def with_row(self, row):
        """Other pieces, with this row behind all others."""
        return Pieces(self.held + (row,))

    def without(self, name):
        """Other pieces, without this one."""
        at = self.place(name)
        return Pieces(self.held[:at] + self.held[at + 1:])

    def with_last(self, name, last):
        """Other pieces, in which this one has another last turn."""
        at = self.place(name)
        row = self.held[at]
        return self.changed(at, (row[0], row[1], last, row[3], row[4]))

    def with_left(self, name, left):
        """Other pieces, in which so much is left of this one."""
        at = self.place(name)
        row = self.held[at]
        return self.changed(at, (row[0], row[1], row[2], row[3], left))

    def since(self, now):
        """Other pieces, as they are at this turn."""
        need_turn(now)
        return Pieces([row_since(row, now) for row in self.held])

    def place(self, name):
        """The number of the piece of this name, counted from 0."""
        for at, row in enumerate(self.held):
            if row[0] == name:
                return at
        raise NoPiece(name)

    def changed(self, at, row):
        """Other pieces, with this row at that place."""
        return Pieces(self.held[:at] + (row,) + self.held[at + 1:])
