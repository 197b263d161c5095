"""How late each piece may come to be done, by the nearest last turn, with chains that show how this comes about."""

from failslack.pieces import whole_row
from failslack.runs import MOST_COUNTS, is_counts_for, need_run_failings, run
from failslack.words import is_within


def rows_ahead(pieces, name):
    """The rows of the pieces that go ahead of this one, in the pieces' order."""
    place = pieces.place(name)
    last = pieces.row(name)[2]
    return [row for at, row in enumerate(pieces.told()) if (row[2], at) < (last, place)]


def ahead_of(pieces, name):
    """The names of the pieces that go ahead of this one."""
    return [row[0] for row in rows_ahead(pieces, name)]


def steps_from(start, rows, failings, said):
    """The ends (end, name) from a start, of rows that count: the first one, said so, and one for each failing."""
    coming = sorted([row for row in rows if row[1] >= start], key=lambda row: row[1])
    steps = []
    end = start
    at = 0
    failed = (said, 0)
    farthest = (None, 0)
    for step in range(failings + 1):
        end += failed[1]
        # Those whose first turn is the start come in even where nothing is wanted yet.
        while at < len(coming) and coming[at][1] < max(end, start + 1):
            end += coming[at][4]
            if coming[at][3] > farthest[1]:
                farthest = (coming[at][0], coming[at][3])
            at += 1
        steps.append((end, failed[0]))
        failed = farthest
    return steps


def last_end(link):
    """The last end of a chain, which is its start where it has no steps."""
    start, steps = link
    return steps[-1][0] if steps else start


def farthest_chain(ahead, own, failings, said):
    """The chain with the greatest last end, of a piece of which something is wanted."""
    rows = ahead + [own]
    starts = sorted({row[1] for row in rows if row[1] <= own[1]})
    links = [(start, steps_from(start, rows, failings, said)) for start in starts]
    # From its own first turn the last end lies behind that turn, so the greatest one of all counts.
    return max(links, key=last_end)


def chain(pieces, failings, name):
    """A tuple (start, steps) that shows how the worst turn comes about."""
    need_run_failings(failings)
    own = pieces.row(name)
    ahead = rows_ahead(pieces, name)
    if own[4] > 0:
        return farthest_chain(ahead, own, failings, None)
    if failings == 0:
        return (own[1], [])
    # Nothing is left of it: it is done only behind its first turn where that try fails, which is one of the failings.
    return farthest_chain(ahead, whole_row(own[:4]), failings - 1, name)


def worst(pieces, failings, name):
    """The greatest turn in which this piece is done, and counts that bring it there."""
    link = chain(pieces, failings, name)
    failed = [who for end, who in link[1]]
    counts = {other: failed.count(other) for other in pieces.names() if other in failed}
    return (last_end(link) - 1, counts)


def worst_turns(pieces, failings):
    """The worst turns of all pieces."""
    need_run_failings(failings)
    return {name: last_end(chain(pieces, failings, name)) - 1 for name in pieces.names()}


def is_worst(pieces, failings, name, counts):
    """Whether these are counts for these failings in whose run this piece is done in its worst turn."""
    if not is_within(failings, 0, MOST_COUNTS) or not pieces.has(name):
        return False
    if not is_counts_for(pieces, counts, failings):
        return False
    return run(pieces, counts).done_turn(name) == last_end(chain(pieces, failings, name)) - 1
