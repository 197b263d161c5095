"""Whole numbers, names and figures, told of any thing."""

LETTERS = "abcdefghijklmnopqrstuvwxyz"
FIGURES = "0123456789"
MOST_SIGNS = 8
MOST_FIGURES = 4


def is_whole(thing):
    """Whether it is a whole number: True and False are none."""
    return isinstance(thing, int) and not isinstance(thing, bool)


def is_within(thing, low, high):
    """Whether it is a whole number that is not below low and not above high."""
    return is_whole(thing) and low <= thing and thing <= high


def are_among(text, signs):
    """Whether each sign of the text is one of these signs."""
    return all([sign in signs for sign in text])


def is_name(thing):
    """Whether it is a name: a small letter, and up to seven small letters or figures behind it."""
    if not isinstance(thing, str) or not is_within(len(thing), 1, MOST_SIGNS):
        return False
    return thing[0] in LETTERS and are_among(thing, LETTERS + FIGURES)


def number_of(thing):
    """The number that it writes in figures, else None."""
    if not isinstance(thing, str) or not is_within(len(thing), 1, MOST_FIGURES):
        return None
    if not are_among(thing, FIGURES):
        return None
    if thing[0] == "0" and len(thing) > 1:
        return None
    return int(thing)
