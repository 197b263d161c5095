"""Stretches of turns: who is within them, what these need, and which ones are worth looking at."""

from failslack.errors import NoFailings, NoStretch
from failslack.pieces import LAST_TURN
from failslack.words import is_within

MOST_FAILINGS = 300


def is_stretch(thing):
    """Whether it is a tuple of a start and an end, which may be one less than the start."""
    if not isinstance(thing, tuple) or len(thing) != 2:
        return False
    return is_within(thing[0], 0, LAST_TURN + 1) and is_within(thing[1], thing[0] - 1, LAST_TURN)


def need_stretch(thing):
    """Refuses what is no stretch."""
    if not is_stretch(thing):
        raise NoStretch(thing)


def need_failings(thing):
    """Refuses what are no failings that can be weighed."""
    if not is_within(thing, 0, MOST_FAILINGS):
        raise NoFailings(thing)


def turns_of(start, end):
    """How many turns there are from start to end, both counted."""
    return end - start + 1


def need_of(left, length, failings):
    """What is left together, and the greatest length as many times as there are failings."""
    return left + failings * length


def room(stretch):
    """How many turns it has."""
    need_stretch(stretch)
    return turns_of(stretch[0], stretch[1])


def rows_within(pieces, stretch):
    """The rows of the pieces within a stretch, in the pieces' order."""
    need_stretch(stretch)
    return [row for row in pieces.told() if row[1] >= stretch[0] and row[2] <= stretch[1]]


def within(pieces, stretch):
    """The names of the pieces within it."""
    return [row[0] for row in rows_within(pieces, stretch)]


def lefts(pieces, stretch):
    """What is left of the pieces within it, together."""
    return sum([row[4] for row in rows_within(pieces, stretch)])


def longest_row(pieces, stretch):
    """The row of the longest piece within it, the first one of several, None where nobody is within."""
    return max(rows_within(pieces, stretch), key=lambda row: row[3], default=None)


def longest(pieces, stretch):
    """The name of the longest piece within it, None where nobody is within."""
    row = longest_row(pieces, stretch)
    return None if row is None else row[0]


def need(pieces, stretch, failings):
    """How many turns the pieces within it may want where so many tries fail."""
    row = longest_row(pieces, stretch)
    need_failings(failings)
    return 0 if row is None else need_of(lefts(pieces, stretch), row[3], failings)


def short(pieces, stretch, failings):
    """By how much its need is greater than its room, below 0 where it is less."""
    return need(pieces, stretch, failings) - room(stretch)


def weights_from(start, rows, ends):
    """The weights (start, end, left, length) from one start, of rows that stand by their last turns."""
    weights = []
    at = left = length = 0
    for end in ends:
        while at < len(rows) and rows[at][2] <= end:
            left += rows[at][4]
            length = max(length, rows[at][3])
            at += 1
        if at > 0:
            weights.append((start, end, left, length))
    return weights


def weights_of(pieces):
    """The stretches of pieces, each with what is left within it, and the greatest length there."""
    rows = sorted(pieces.told(), key=lambda row: row[2])
    ends = sorted({row[2] for row in rows})
    weights = []
    for start in sorted({row[1] for row in rows}):
        weights.extend(weights_from(start, [row for row in rows if row[1] >= start], ends))
    return weights


def stretches(pieces):
    """All stretches from a first turn to a last turn within which there is a piece, rising."""
    return [(start, end) for start, end, left, length in weights_of(pieces)]
