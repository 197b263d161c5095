"""A book of promises: what was asked for, worked on and told of each try, turn by turn."""

from failslack.bearing import borne
from failslack.errors import BadPieces, NoFailing, NoPiece, NoRest, NoWord, Over, Past, Waits
from failslack.papers import paper_of
from failslack.pieces import LAST_TURN, MOST_PIECES, Pieces
from failslack.runs import need_run_failings
from failslack.states import Begun, Ended, Finished, Off, Refused, Waiting
from failslack.weighing import too_short
from failslack.words import is_within
from failslack.worst import worst_turns


def open_state(row):
    """The state of an open piece."""
    if row[4] == 0:
        return Ended()
    return Waiting() if row[4] == row[3] else Begun()


class Book:
    """Promises for some failings. Its open pieces are kept for the failings left at all times."""

    def __init__(self, failings):
        need_run_failings(failings)
        self.turn = 0
        self.many = failings
        # With the windows for which they were asked; as they stand is told of them only when it is wanted.
        self.promised = Pieces([])
        # What became of names the last time; of an open piece its row tells the state.
        self.became = {}
        self.deeds = []

    def now(self):
        """The turn that comes next."""
        return self.turn

    def failings_left(self):
        """How many failings are left."""
        return self.many

    def pieces(self):
        """The open pieces as they stand."""
        return self.promised.since(self.turn)

    def ask(self, name, first, last, length):
        """Asks for a piece: it is promised where the paper that is told keeps it."""
        row = self.asked_row(name, first, last, length)
        paper = paper_of(self.pieces().with_row(row), self.many)
        if paper.word() == "kept":
            self.promised = self.promised.with_row((name, first, last, length))
        else:
            self.became[name] = Refused()
        self.deeds.append(("ask", name, paper.word()))
        return paper

    def asked_row(self, name, first, last, length):
        """The row of a piece as it would stand, where it were asked for."""
        alone = Pieces([(name, first, last, length)])
        if self.promised.has(name):
            raise BadPieces(0, "double")
        if len(self.promised.told()) == MOST_PIECES:
            raise BadPieces(MOST_PIECES, "many")
        if last < self.turn:
            raise Past(last)
        return alone.since(self.turn).row(name)

    def work(self):
        """A turn of work by the nearest last turn, on the piece whose name is told."""
        self.need_next()
        ready = [row for row in self.promised.told() if row[1] <= self.turn]
        nearest = min(ready, key=lambda row: row[2], default=None)
        name = None
        if nearest is not None:
            name = nearest[0]
            self.promised = self.promised.with_left(name, nearest[4] - 1)
        self.deeds.append(("work", self.turn, name))
        self.turn += 1
        return name

    def rest(self):
        """A turn of rest, where the open pieces are kept from the next turn on, too."""
        self.need_next()
        stretch = too_short(self.promised.since(self.turn + 1), self.many)
        if stretch is not None:
            raise NoRest(stretch[0], stretch[1])
        self.deeds.append(("rest", self.turn))
        self.turn += 1

    def failed(self):
        """The try that has ended failed."""
        row = self.need_ended()
        if self.many == 0:
            raise NoFailing()
        self.many -= 1
        self.promised = self.promised.with_left(row[0], row[3])
        self.deeds.append(("failed", row[0]))
        return row[0]

    def done(self):
        """The try that has ended did not fail."""
        name = self.need_ended()[0]
        self.close(name, Finished())
        self.deeds.append(("done", name))
        return name

    def call_off(self, name):
        """An open piece is called off."""
        self.close(name, Off())
        self.deeds.append(("off", name))

    def longer(self, name, last):
        """An open piece gets a later last turn."""
        own = self.promised.row(name)[2]
        if not is_within(last, own + 1, LAST_TURN):
            raise BadPieces(0, "last")
        self.promised = self.promised.with_last(name, last)
        self.deeds.append(("longer", name, last))

    def state(self, name):
        """The word for what became of a name the last time that it was asked for."""
        if self.promised.has(name):
            return open_state(self.promised.row(name)).word()
        # A list is asked, as the thing need not be one that can be a key.
        if name not in list(self.became):
            raise NoPiece(name)
        return self.became[name].word()

    def bears(self):
        """How many failings the open pieces bear, None where there are none."""
        return borne(self.pieces())

    def latest(self):
        """In which turn each open piece is done at the latest, if it is only worked from now on."""
        return worst_turns(self.pieces(), self.many)

    def history(self):
        """What was done, the oldest first."""
        return list(self.deeds)

    def ended(self):
        """The row of the open piece whose try has ended, None where there is none."""
        # There is never more than one, as no turn comes behind a try that ended until a word of it is told.
        return min([row for row in self.promised.told() if row[4] == 0], default=None)

    def need_next(self):
        """Refuses a turn where none comes any more, or where a word is wanting first."""
        if self.turn > LAST_TURN:
            raise Over()
        row = self.ended()
        if row is not None:
            raise Waits(row[0])

    def need_ended(self):
        """The row of the open piece whose try has ended, refused where there is none."""
        row = self.ended()
        if row is None:
            raise NoWord()
        return row

    def close(self, name, state):
        """A piece is open no more, and this became of it."""
        self.promised = self.promised.without(name)
        self.became[name] = state
