"""What promised pieces have to spare: how much otherwise each of them could be, so that all are kept yet."""

from failslack.bearing import borne
from failslack.edges import edge_papers
from failslack.pieces import MOST_LENGTH
from failslack.stretches import need_failings
from failslack.weighing import need_kept


def earlier_last(row, number):
    """A row whose last turn is so many turns earlier."""
    return (row[0], row[1], row[2] - number, row[3], row[4])


def later_first(row, number):
    """A row whose first turn is so many turns later."""
    return (row[0], row[1] + number, row[2], row[3], row[4])


def longer_length(row, number):
    """A row whose length, and what is left of it, is so many turns greater."""
    return (row[0], row[1], row[2], row[3] + number, row[4] + number)


def greater_left(row, number):
    """A row of which so many turns more are left."""
    return (row[0], row[1], row[2], row[3], row[4] + number)


def most_last(row):
    """By how many turns a last turn may be earlier at the most."""
    return row[2] - max(0, row[1] - 1)


def most_first(row):
    """By how many turns a first turn may be later at the most."""
    return row[2] + 1 - row[1]


def most_length(row):
    """By how many turns a length may be greater at the most."""
    return MOST_LENGTH - row[3]


def most_left(row):
    """How many turns more may be left at the most."""
    return row[3] - row[4]


def spare_by(pieces, failings, name, change, most):
    """By how many turns a piece could be changed so at its own place, with both papers."""
    need_failings(failings)
    at = pieces.place(name)
    row = pieces.row(name)
    need_kept(pieces, failings)
    return edge_papers(lambda number: pieces.changed(at, change(row, number)), failings, most(row))


def last_spare(pieces, failings, name):
    """By how many turns its last turn could be earlier, with both papers."""
    return spare_by(pieces, failings, name, earlier_last, most_last)


def first_spare(pieces, failings, name):
    """By how many turns its first turn could be later, with both papers."""
    return spare_by(pieces, failings, name, later_first, most_first)


def length_spare(pieces, failings, name):
    """By how many turns its length, and what is left of it, could be greater, with both papers."""
    return spare_by(pieces, failings, name, longer_length, most_length)


def left_spare(pieces, failings, name):
    """How many turns more could be left of it, with both papers."""
    return spare_by(pieces, failings, name, greater_left, most_left)


def four_spares(pieces, failings, name):
    """The four numbers of one piece."""
    return (
        last_spare(pieces, failings, name)[0],
        first_spare(pieces, failings, name)[0],
        length_spare(pieces, failings, name)[0],
        left_spare(pieces, failings, name)[0],
    )


def spares(pieces, failings):
    """The four numbers of each piece."""
    need_kept(pieces, failings)
    return {name: four_spares(pieces, failings, name) for name in pieces.names()}


def off_spare(pieces, name):
    """How many failings can be borne by the pieces, and how many by those without this one."""
    return (borne(pieces), borne(pieces.without(name)))
