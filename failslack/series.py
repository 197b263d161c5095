"""Work that comes again, every so many turns: rows of a series, and the pieces that come of them."""

from failslack.bearing import borne, each_borne
from failslack.errors import BadSeries, NoPiece, NoTurn
from failslack.pieces import LAST_TURN, MOST_LENGTH, MOST_PIECES, Pieces
from failslack.words import is_name, is_within

MOST_NAME = 6
MOST_TURNS = 200


def last_turn(row):
    """The last turn of the last piece of a row."""
    name, first, window, length, every, times = row
    return first + (times - 1) * every + window - 1


def piece_names(row):
    """The names of all pieces of a row, by their numbers."""
    return [f"{row[0]}{number}" for number in range(row[5])]


def piece_rows(row):
    """The rows of all pieces of a row, by their numbers."""
    name, first, window, length, every, times = row
    starts = [first + number * every for number in range(times)]
    return [(own, start, start + window - 1, length) for own, start in zip(piece_names(row), starts)]


def fault_of_things(row):
    """The first word that is due of what stands in a row, by itself; None where all is good."""
    if not is_within(row[1], 0, LAST_TURN):
        return "first"
    if not is_within(row[2], 1, MOST_TURNS):
        return "window"
    if not is_within(row[3], 1, MOST_LENGTH):
        return "length"
    if not is_within(row[4], 1, MOST_TURNS):
        return "every"
    if not is_within(row[5], 1, MOST_PIECES):
        return "times"
    if last_turn(row) > LAST_TURN:
        return "last"
    return None


def fault_of_pieces(row, ahead):
    """The first word that is due of the pieces of a row, by the good rows ahead of it; None where all is good."""
    others = [name for other in ahead for name in piece_names(other)]
    own = piece_names(row)
    if any([name in others for name in own]):
        return "meets"
    if len(own) + len(others) > MOST_PIECES:
        return "together"
    return None


def fault_of_row(row, ahead):
    """The first word that is due of a row, by the good rows ahead of it; None where it is good."""
    if not isinstance(row, tuple) or len(row) != 6:
        return "form"
    if not is_name(row[0]) or len(row[0]) > MOST_NAME:
        return "name"
    if row[0] in [other[0] for other in ahead]:
        return "double"
    why = fault_of_things(row)
    return fault_of_pieces(row, ahead) if why is None else why


def good_series(rows):
    """The rows as a tuple, refused with BadSeries where they are no series."""
    if not isinstance(rows, (list, tuple)):
        raise BadSeries(None, "form")
    if len(rows) > MOST_PIECES:
        raise BadSeries(MOST_PIECES, "many")
    good = []
    for at, row in enumerate(rows):
        why = fault_of_row(row, good)
        if why is not None:
            raise BadSeries(at, why)
        good.append(row)
    return tuple(good)


def need_turn_within(thing):
    """Refuses what is none of the turns."""
    if not is_within(thing, 0, LAST_TURN):
        raise NoTurn(thing)


class Series:
    """A series, made of a list or a tuple of rows (name, first, window, length, every, times)."""

    def __init__(self, rows):
        self.held = good_series(rows)
        coming = [piece for row in self.held for piece in piece_rows(row)]
        # Those of one first turn stay in the order of the rows.
        self.whole = Pieces(sorted(coming, key=lambda piece: piece[1]))

    def told(self):
        """All rows, in their order."""
        return self.held

    def names(self):
        """The names of all rows, in their order."""
        return [row[0] for row in self.held]

    def row(self, name):
        """The row of this name."""
        for row in self.held:
            if row[0] == name:
                return row
        raise NoPiece(name)

    def pieces(self):
        """All pieces, in the order of their first turns."""
        return self.whole

    def begun_at(self, name, turn):
        """The number of the row's piece that began last by this turn, and how many turns ago; None where none is on."""
        row = self.row(name)
        need_turn_within(turn)
        if turn < row[1] or turn > last_turn(row):
            return None
        number = min((turn - row[1]) // row[4], row[5] - 1)
        return (number, turn - row[1] - number * row[4])

    def whose(self, name):
        """Of which row a piece is, by its name, and its number there."""
        for row in self.held:
            own = piece_names(row)
            if name in own:
                return (row[0], own.index(name))
        raise NoPiece(name)

    def open_at(self, turn):
        """The names of all pieces in whose windows this turn lies."""
        need_turn_within(turn)
        return [piece[0] for piece in self.whole.told() if piece[1] <= turn and turn <= piece[2]]


def borne_by(series):
    """How many failings the pieces of a series bear."""
    return borne(series.pieces())


def tightest(series):
    """How often the tightest piece of each row may fail where no other one does."""
    each = each_borne(series.pieces())
    return {row[0]: min([each[name] for name in piece_names(row)]) for row in series.told()}
