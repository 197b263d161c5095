"""Papers: what is told of pieces for some failings, so that whoever has both sees by adding up whether it is so."""

from failslack.runs import need_counts, run
from failslack.stretches import is_stretch, longest_row, need_failings, need_stretch, short, within
from failslack.weighing import is_kept, too_short


class Paper:
    """A paper of either kind; only those under it are made."""

    def __init__(self, pieces, failings):
        need_failings(failings)
        self.whole = pieces
        self.many = failings

    def word(self):
        """The word of its kind."""
        raise NotImplementedError("only a Kept or a Crowd has a word")

    def holds(self):
        """Whether what it tells is so."""
        raise NotImplementedError("only a Kept or a Crowd can hold")

    def failings(self):
        """For how many failings it is."""
        return self.many

    def told(self):
        """Itself as a tuple."""
        return (self.word(), self.many)


class Kept(Paper):
    """Tells that the pieces are kept for these failings."""

    def word(self):
        """The word of its kind."""
        return "kept"

    def holds(self):
        """Whether the pieces are kept."""
        return is_kept(self.whole, self.many)

    def failings(self):
        """For how many failings it is."""
        return self.many

    def told(self):
        """Itself as a tuple."""
        return ("kept", self.many)

    def order(self, counts):
        """An order of work for counts that are together at most its failings."""
        need_counts(self.whole, counts, self.many)
        return run(self.whole, counts).rows()


class Crowd(Paper):
    """Tells that the need of a stretch is greater than its room."""

    def __init__(self, pieces, failings, stretch):
        Paper.__init__(self, pieces, failings)
        need_stretch(stretch)
        self.start = stretch[0]
        self.end = stretch[1]

    def word(self):
        """The word of its kind."""
        return "crowd"

    def holds(self):
        """Whether the need is greater than the room."""
        return self.over() > 0

    def failings(self):
        """For how many failings it is."""
        return self.many

    def told(self):
        """Itself as a tuple."""
        return ("crowd", self.many, self.start, self.end)

    def stretch(self):
        """Its stretch."""
        return (self.start, self.end)

    def names(self):
        """The names of the pieces within its stretch."""
        return within(self.whole, self.stretch())

    def longest(self):
        """The name of the longest of them, None where nobody is within."""
        row = longest_row(self.whole, self.stretch())
        return None if row is None else row[0]

    def over(self):
        """By how much the need is greater than the room, below 0 where it is less."""
        return short(self.whole, self.stretch(), self.many)

    def counts(self):
        """The counts for which nobody could do them all, where it holds: the longest one fails each time."""
        name = self.longest()
        return {} if name is None or self.many == 0 else {name: self.many}


def paper_of(pieces, failings):
    """The paper that holds."""
    stretch = too_short(pieces, failings)
    return Kept(pieces, failings) if stretch is None else Crowd(pieces, failings, stretch)


def is_crowd(pieces, failings, thing):
    """Whether it is a stretch of which a paper of a crowd holds."""
    need_failings(failings)
    return is_stretch(thing) and short(pieces, thing, failings) > 0
