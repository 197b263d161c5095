"""A series written as a text, and read from one."""

from failslack.errors import BadSeries, BadText
from failslack.series import Series
from failslack.texts import read_rows


def show_line(row):
    """The line of a row."""
    return " ".join([str(thing) for thing in row])


def show_series(series):
    """The text of a series."""
    return "\n".join([show_line(row) for row in series.told()])


def read_series(text):
    """The series that a text tells."""
    rows = read_rows(text, (6,))
    try:
        return Series(rows)
    except BadSeries as e:
        raise BadText(e.at, e.why) from None
