"""The lines of a desk: which form they have, and how answers are written."""

from failslack.errors import NoLine
from failslack.words import is_name, number_of


def thing_of(word, place):
    """What a word tells at a place of a form: a name or a number, None where it does not fit there."""
    if place == "NAME":
        return word if is_name(word) else None
    return number_of(word)


def things_of(words, form):
    """The names and numbers that these words tell by a form, None where they have not this form."""
    places = form.split(" ")
    if len(words) != len(places) or words[0] != places[0]:
        return None
    things = [thing_of(word, place) for word, place in zip(words[1:], places[1:])]
    return None if None in things else things


def read_line(line, forms):
    """A tuple of the form that a line has and of what it tells by it, refused with NoLine where it has none."""
    if not isinstance(line, str):
        raise NoLine(line)
    words = line.split(" ")
    for form in forms:
        things = things_of(words, form)
        if things is not None:
            return (form, things)
    raise NoLine(line)


def written(things):
    """Names and numbers with a blank between any two, the word for none where there are none."""
    return " ".join([str(thing) for thing in things]) if things else "nothing"


def written_rows(rows):
    """Texts of several words each, the word for none where there are none."""
    return "; ".join(rows) if rows else "nothing"
