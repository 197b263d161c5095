"""Runs by the nearest last turn: what is worked on in each turn, and what became of each try."""

from failslack.errors import NoCounts, NoFailings, NoPiece
from failslack.words import is_within

MOST_COUNTS = 200


def is_counts(pieces, thing):
    """Whether it is a dict from names of the pieces to numbers of failings, not too many together."""
    return is_counts_for(pieces, thing, MOST_COUNTS)


def is_counts_for(pieces, thing, most):
    """Whether these are counts of at most so many failings."""
    if not isinstance(thing, dict) or not all([pieces.has(key) for key in thing]):
        return False
    numbers = list(thing.values())
    return all([is_within(number, 0, MOST_COUNTS) for number in numbers]) and sum(numbers) <= min(most, MOST_COUNTS)


def need_counts(pieces, thing, most):
    """Refuses what are no counts of at most so many failings."""
    if not is_counts_for(pieces, thing, most):
        raise NoCounts(thing)


def need_run_failings(thing):
    """Refuses what are no failings for which there could be a run."""
    if not is_within(thing, 0, MOST_COUNTS):
        raise NoFailings(thing)


class Run:
    """What came of a run: the turns that were worked, and the tries that ended."""

    def __init__(self, pieces, worked, tries):
        self.whole = pieces
        self.worked = tuple(worked)
        self.tries = tuple(tries)
        # Of several ends of one piece the last one stays.
        self.done_in = {name: turn for name, number, turn, word in tries}

    def rows(self):
        """A tuple (turn, name) for each turn that was worked, rising."""
        return list(self.worked)

    def ends(self):
        """A tuple (name, number, turn, word) for each try, in the order in which they ended."""
        return list(self.tries)

    def done_turn(self, name):
        """The turn in which this piece is done."""
        if not self.whole.has(name):
            raise NoPiece(name)
        return self.done_in[name]

    def late(self):
        """The names of the pieces that are done behind their last turns."""
        return [row[0] for row in self.whole.told() if self.done_in[row[0]] > row[2]]

    def fell(self):
        """How many tries failed, of each piece of which any did."""
        failed = [name for name, number, turn, word in self.tries if word == "failed"]
        return {name: failed.count(name) for name in self.whole.names() if name in failed}


class Course:
    """A run on its way. Pieces are known by their places, as what is left of them changes."""

    def __init__(self, pieces, most):
        self.sought = pieces.told()
        self.most = most
        self.wanting = [row[4] for row in self.sought]
        self.tried = [0 for row in self.sought]
        self.undone = list(range(len(self.sought)))
        self.worked = []
        self.tries = []

    def nearest(self, turn):
        """The piece with the least last turn of those that can be worked on in this turn, None if none can."""
        places = [at for at in self.undone if self.sought[at][1] <= turn]
        return min(places, key=lambda at: self.sought[at][2], default=None)

    def work_on(self, at, turn, fails):
        """A turn of work on this piece."""
        self.worked.append((turn, self.sought[at][0]))
        self.wanting[at] -= 1
        if self.wanting[at] == 0:
            self.end_try(at, turn, fails)

    def end_try(self, at, turn, fails):
        """A try of this piece ends: it fails, and the length is left again, or the piece is done."""
        name = self.sought[at][0]
        number = self.tried[at]
        self.tried[at] += 1
        if self.most > 0 and fails(name, number):
            self.most -= 1
            self.wanting[at] = self.sought[at][3]
            self.tries.append((name, number, turn, "failed"))
        else:
            self.undone.remove(at)
            self.tries.append((name, number, turn, "done"))

    def end_handed(self, turn, fails):
        """The tries end that were handed in with nothing left, and whose first turn comes next."""
        for at, row in enumerate(self.sought):
            if row[4] == 0 and row[1] == turn + 1:
                self.end_try(at, turn, fails)


def run_asking(pieces, fails, most):
    """The run in which a function tells of each try whether it failed, as long as any more may."""
    need_run_failings(most)
    course = Course(pieces, most)
    # Nothing can be worked on in the turn ahead of all, but tries that were handed in may end there.
    turn = -1
    while course.undone:
        at = course.nearest(turn)
        if at is not None:
            course.work_on(at, turn, fails)
        course.end_handed(turn, fails)
        turn += 1
    return Run(pieces, course.worked, course.tries)


def run(pieces, counts):
    """The run in which as many of the first tries of each piece fail as counts tell."""
    need_counts(pieces, counts, MOST_COUNTS)
    return run_asking(pieces, lambda name, number: number < counts.get(name, 0), MOST_COUNTS)
