"""Pieces written as a text, and read from one."""

from failslack.errors import BadPieces, BadText
from failslack.pieces import Pieces
from failslack.words import is_name, number_of


def show_row(row):
    """The line of a row, without what is left where that is the whole length."""
    name, first, last, length, left = row
    line = f"{name} {first} {last} {length}"
    return line if left == length else f"{line} {left}"


def show_pieces(pieces):
    """The text of pieces."""
    return "\n".join([show_row(row) for row in pieces.told()])


def read_row(line, sizes):
    """The row of one of these sizes that a line writes, a name and numbers, None where it has not the form of one."""
    words = line.split(" ")
    if len(words) not in sizes or not is_name(words[0]):
        return None
    numbers = [number_of(word) for word in words[1:]]
    if None in numbers:
        return None
    return (words[0], *numbers)


def read_rows(text, sizes):
    """The rows of these sizes that a text writes, refused with BadText where one has not the form."""
    if not isinstance(text, str):
        raise BadText(0, "form")
    if text == "":
        return []
    rows = [read_row(line, sizes) for line in text.split("\n")]
    if None in rows:
        raise BadText(rows.index(None), "form")
    return rows


def read_pieces(text):
    """The pieces that a text tells."""
    rows = read_rows(text, (4, 5))
    try:
        return Pieces(rows)
    except BadPieces as e:
        raise BadText(e.at, e.why) from None
