"""Orders of work, whoever made them: whether they do all that is wanted, each piece in its window."""

from failslack.runs import MOST_COUNTS, need_counts
from failslack.words import is_within


def is_turn_of(pieces, row):
    """Whether it is a tuple of a turn and a name, the turn in the window of this piece."""
    if not isinstance(row, tuple) or len(row) != 2 or not pieces.has(row[1]):
        return False
    name, first, last, length, left = pieces.row(row[1])
    return is_within(row[0], first, last)


def does(pieces, counts, rows):
    """Whether the rows do all that these counts want."""
    need_counts(pieces, counts, MOST_COUNTS)
    if not isinstance(rows, list) or not all([is_turn_of(pieces, row) for row in rows]):
        return False
    turns = [row[0] for row in rows]
    if turns != sorted(set(turns)):
        return False
    names = [row[1] for row in rows]
    wanted = [(row[0], row[4] + row[3] * counts.get(row[0], 0)) for row in pieces.told()]
    return all([names.count(name) == many for name, many in wanted])
