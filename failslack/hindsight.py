"""What would have let a refused piece in: a later end, an earlier start, fewer failings, or another piece's place."""

from failslack.bearing import borne
from failslack.edges import edge_papers
from failslack.errors import NotRefused
from failslack.papers import Kept
from failslack.pieces import LAST_TURN, need_turn, whole_row
from failslack.stretches import need_failings
from failslack.weighing import is_kept


def need_refused(pieces, failings, row):
    """Refuses a row that is none, one that would be let in, and pieces that are not kept even without it."""
    if is_kept(pieces.with_row(row), failings) or not is_kept(pieces, failings):
        raise NotRefused()


def least_papers(made, failings, most):
    """The least number from 1 to most for which what is made of it is kept, with both papers; None if there is none."""
    if not is_kept(made(most), failings):
        return None
    # Seen from most downwards it is the greatest number of turns that can be done without.
    fewer_by, kept, crowd = edge_papers(lambda number: made(most - number), failings, most)
    return (most - fewer_by, kept, crowd)


def later_end(pieces, failings, row):
    """By how many turns its last turn would have to be later, with both papers, None where none is enough."""
    need_failings(failings)
    need_refused(pieces, failings, row)
    name, first, last, length, left = whole_row(row)
    return least_papers(lambda number: pieces.with_row((name, first, last + number, length, left)),
                        failings, LAST_TURN - last)


def earlier_start(pieces, failings, row, now=0):
    """By how many turns its first turn would have to be earlier, but not ahead of now, likewise."""
    need_failings(failings)
    need_turn(now)
    need_refused(pieces, failings, row)
    name, first, last, length, left = whole_row(row)
    return least_papers(lambda number: pieces.with_row((name, first - number, last, length, left)),
                        failings, max(0, first - now))


def fewer(pieces, failings, row):
    """How many failings the pieces with this row bear."""
    need_failings(failings)
    need_refused(pieces, failings, row)
    return borne(pieces.with_row(row))


def instead_of(pieces, failings, row):
    """A tuple (name, paper) for each piece in whose place it would be let in."""
    need_failings(failings)
    need_refused(pieces, failings, row)
    papers = [(name, Kept(pieces.without(name).with_row(row), failings)) for name in pieces.names()]
    return [(name, paper) for name, paper in papers if paper.holds()]
