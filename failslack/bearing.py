"""How many failings can be borne, and which stretches keep this from being more."""

from failslack.papers import Crowd, Kept
from failslack.stretches import MOST_FAILINGS, turns_of, weights_of
from failslack.weighing import is_kept, table, too_short


def borne(pieces):
    """The greatest number of failings for which they are kept, -1 where there is none; None of no pieces."""
    # No stretch has more than 200 turns, and no length is below 1: so it is never more than 200.
    lets = [(turns_of(start, end) - left) // length for start, end, left, length in weights_of(pieces)]
    return max(-1, min(lets)) if lets else None


def borne_papers(pieces):
    """This number, a paper that they are kept for it, and one of a crowd for one failing more."""
    number = borne(pieces)
    if number is None:
        return (None, Kept(pieces, MOST_FAILINGS), None)
    kept = Kept(pieces, number) if number >= 0 else None
    return (number, kept, Crowd(pieces, number + 1, too_short(pieces, number + 1)))


def tight(pieces):
    """The stretches that are too short for one failing more than can be borne."""
    number = borne(pieces)
    if number is None:
        return []
    return [(start, end) for start, end, wanted, there in table(pieces, number + 1) if wanted > there]


def borne_alone(row, weights):
    """How many tries of this piece may fail where no other one's do, by the stretches around it."""
    return min([(turns_of(start, end) - left) // row[3] for start, end, left, length in weights
                if start <= row[1] and row[2] <= end])


def each_borne(pieces):
    """How many tries of each piece may fail where no other one's do, -1 for all where they aren't kept for none."""
    if not is_kept(pieces, 0):
        return {name: -1 for name in pieces.names()}
    weights = weights_of(pieces)
    return {row[0]: borne_alone(row, weights) for row in pieces.told()}
