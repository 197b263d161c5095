"""All stretches of pieces weighed for failings, and whether the pieces are kept."""

from failslack.errors import NotKept
from failslack.stretches import need_failings, need_of, turns_of, weights_of
from failslack.words import is_whole


def table(pieces, failings):
    """A tuple (start, end, need, room) for each stretch of the pieces."""
    need_failings(failings)
    return [(start, end, need_of(left, length, failings), turns_of(start, end))
            for start, end, left, length in weights_of(pieces)]


def too_short(pieces, failings):
    """The first stretch of the table whose need is greater than its room, None where there is none."""
    for start, end, wanted, there in table(pieces, failings):
        if wanted > there:
            return (start, end)
    return None


def is_kept(pieces, failings):
    """Whether no stretch has a need that is greater than its room."""
    return too_short(pieces, failings) is None


def need_kept(pieces, failings):
    """Refuses pieces that are not kept."""
    if not is_kept(pieces, failings):
        raise NotKept()


def is_table(pieces, failings, thing):
    """Whether it is the table of the pieces for these failings."""
    if thing != table(pieces, failings):
        return False
    # True equals 1 and False equals 0, but truths are no numbers.
    return all([is_whole(number) for row in thing for number in row])
