"""All refusals: each has a class of its own, straight under SlackError.

Their texts never show the values: these may be any things, and are there to be read as they are.
"""


class SlackError(ValueError):
    """Any refusal."""

    def __init__(self, text):
        ValueError.__init__(self, text)


class BadPieces(SlackError):
    """Rows that are no pieces: at is the row's number, why the word for it."""

    def __init__(self, at, why):
        SlackError.__init__(self, "these are no pieces")
        self.at = at
        self.why = why


class BadText(SlackError):
    """A text that cannot be read: at is the row's number, why the word for it."""

    def __init__(self, at, why):
        SlackError.__init__(self, "this text cannot be read")
        self.at = at
        self.why = why


class NoPiece(SlackError):
    """What is no name of a piece."""

    def __init__(self, found):
        SlackError.__init__(self, "this is no name of a piece")
        self.found = found


class NoTurn(SlackError):
    """What is no turn."""

    def __init__(self, found):
        SlackError.__init__(self, "this is no turn")
        self.found = found


class NoStretch(SlackError):
    """What is no stretch."""

    def __init__(self, found):
        SlackError.__init__(self, "this is no stretch")
        self.found = found


class NoFailings(SlackError):
    """What are no failings."""

    def __init__(self, found):
        SlackError.__init__(self, "these are no failings")
        self.found = found


class NoCounts(SlackError):
    """What is no counts."""

    def __init__(self, found):
        SlackError.__init__(self, "these are no counts")
        self.found = found


class NotRefused(SlackError):
    """A piece that was not refused, so that nothing more would let it in."""

    def __init__(self):
        SlackError.__init__(self, "this piece is not the one that is refused")


class Past(SlackError):
    """A last turn that is over."""

    def __init__(self, last):
        SlackError.__init__(self, "this last turn is over")
        self.last = last


class Waits(SlackError):
    """A piece whose try has ended, and of which a word is wanting."""

    def __init__(self, name):
        SlackError.__init__(self, "a try has ended, and a word of it is wanting")
        self.name = name


class NoWord(SlackError):
    """No word is wanting."""

    def __init__(self):
        SlackError.__init__(self, "no try has ended, so no word is wanting")


class NoFailing(SlackError):
    """No failing is left."""

    def __init__(self):
        SlackError.__init__(self, "no failing is left")


class NoRest(SlackError):
    """A rest that would make the stretch from start to end too short."""

    def __init__(self, start, end):
        SlackError.__init__(self, "a rest would make a stretch too short")
        self.start = start
        self.end = end


class Over(SlackError):
    """The last turn is over."""

    def __init__(self):
        SlackError.__init__(self, "all turns are over")


class NoLine(SlackError):
    """What is no line."""

    def __init__(self, found):
        SlackError.__init__(self, "this is no line")
        self.found = found


class NotKept(SlackError):
    """Pieces that are not kept."""

    def __init__(self):
        SlackError.__init__(self, "these pieces are not kept")


class BadSeries(SlackError):
    """Rows that are no series: at is the row's number, why the word for it."""

    def __init__(self, at, why):
        SlackError.__init__(self, "these rows are no series")
        self.at = at
        self.why = why
