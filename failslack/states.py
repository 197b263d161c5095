"""The states of a piece for which was asked."""


class State:
    """What became of a piece. Only the six states under which no other one stands are made."""

    def word(self):
        """The word for it."""
        raise NotImplementedError("only a state that is made has a word")

    def is_open(self):
        """Whether the piece is promised yet."""
        return False


class Open(State):
    """The piece is promised, and neither done nor called off."""

    def word(self):
        """The word for it."""
        raise NotImplementedError("only a state that is made has a word")

    def is_open(self):
        """Whether the piece is promised yet."""
        return True


class Waiting(Open):
    """The whole length is left."""

    def word(self):
        """The word for it."""
        return "waiting"

    def is_open(self):
        """It is."""
        return True


class Begun(Open):
    """Some of the length is left."""

    def word(self):
        """The word for it."""
        return "begun"

    def is_open(self):
        """It is."""
        return True


class Ended(Open):
    """Nothing is left, and a word of the try is wanting."""

    def word(self):
        """The word for it."""
        return "ended"

    def is_open(self):
        """It is."""
        return True


class Finished(State):
    """A try ended well."""

    def word(self):
        """The word for it."""
        return "done"

    def is_open(self):
        """It is not."""
        return False


class Off(State):
    """The piece was called off."""

    def word(self):
        """The word for it."""
        return "off"

    def is_open(self):
        """It is not."""
        return False


class Refused(State):
    """The piece was not promised."""

    def word(self):
        """The word for it."""
        return "refused"

    def is_open(self):
        """It is not."""
        return False
