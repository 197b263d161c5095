"""As late as may be: how long the worker may rest, and runs in which it rests whenever it may."""

from failslack.edges import edge_papers
from failslack.pieces import LAST_TURN, Pieces
from failslack.runs import Course, Run, need_counts, need_run_failings, run
from failslack.stretches import need_failings
from failslack.weighing import is_kept, need_kept


def most_rest(pieces, failings, now):
    """For how many turns from now on the worker may rest, with both papers."""
    need_failings(failings)
    need_kept(pieces.since(now), failings)
    return edge_papers(lambda number: pieces.since(now + number), failings, LAST_TURN + 1 - now)


def may_rest(course, turn):
    """Whether what is not done is kept from the next turn on, for the failings left."""
    standing = [course.sought[at][:4] + (course.wanting[at],) for at in course.undone]
    return is_kept(Pieces(standing).since(turn + 1), course.most)


def lazily(pieces, failings, counts):
    """The run in which the worker rests whenever it may."""
    need_run_failings(failings)
    need_kept(pieces, failings)
    need_counts(pieces, counts, failings)
    return lazy_run(pieces, failings, lambda name, number: number < counts.get(name, 0))


def lazy_run(pieces, failings, fails):
    """The lazy run of kept pieces, in which a function tells of each try whether it failed."""
    course = Course(pieces, failings)
    course.end_handed(-1, fails)
    turn = 0
    while course.undone:
        if not may_rest(course, turn):
            # What cannot rest has a piece to work on: no other piece's window becomes smaller by the rest.
            course.work_on(course.nearest(turn), turn, fails)
        course.end_handed(turn, fails)
        turn += 1
    return Run(pieces, course.worked, course.tries)


def first_work(pieces, failings, name):
    """The turn in which a piece is worked on first where nothing fails, None where nothing is left of it."""
    need_run_failings(failings)
    need_kept(pieces, failings)
    pieces.row(name)
    rows = lazily(pieces, failings, {}).rows()
    return min([turn for turn, worked in rows if worked == name], default=None)


def eager_and_lazy(pieces, failings, counts):
    """In which turn each piece is done in the run by the nearest last turn, and in the lazy one."""
    late = lazily(pieces, failings, counts)
    early = run(pieces, counts)
    return {name: (early.done_turn(name), late.done_turn(name)) for name in pieces.names()}
