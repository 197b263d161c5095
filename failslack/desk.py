"""A desk: it has a book, is told lines, and answers each by a text."""

from failslack.bearing import borne_papers
from failslack.book import Book
from failslack.errors import Over, Waits
from failslack.hindsight import earlier_start, fewer, instead_of, later_end
from failslack.lines import read_line, written, written_rows
from failslack.stretches import need, room
from failslack.texts import show_row


def written_crowd(crowd):
    """The start and the end of a crowd's stretch, and the names within."""
    return written(list(crowd.stretch()) + crowd.names())


def written_one(thing):
    """One name or number, the word for none where it is None."""
    return written([] if thing is None else [thing])


def written_least(told):
    """The number of what hindsight told, or that there is none."""
    return "never" if told is None else str(told[0])


def say_ask(book, name, first, last, length):
    """Asks for a piece."""
    paper = book.ask(name, first, last, length)
    return "promised" if paper.word() == "kept" else f"refused {written_crowd(paper)}"


def say_work(book):
    """A turn of work."""
    return written_one(book.work())


def say_work_on(book, many):
    """So many turns of work at most."""
    answers = [say_work(book)] if many > 0 else []
    try:
        while len(answers) < many:
            answers.append(say_work(book))
    except (Over, Waits):
        # Only the first turn is refused for all: what was worked until now stays.
        pass
    return written(answers)


def say_rest(book):
    """A turn of rest."""
    book.rest()
    return "ok"


def say_failed(book):
    """The try that has ended failed."""
    return book.failed()


def say_done(book):
    """The try that has ended is done."""
    return book.done()


def say_off(book, name):
    """A piece is called off."""
    book.call_off(name)
    return "ok"


def say_longer(book, name, last):
    """A piece gets a later last turn."""
    book.longer(name, last)
    return "ok"


def say_now(book):
    """The turn that comes next."""
    return str(book.now())


def say_left(book):
    """How many failings are left."""
    return str(book.failings_left())


def say_bears(book):
    """How many failings the open pieces bear."""
    return written_one(book.bears())


def say_state(book, name):
    """The state of a name."""
    return book.state(name)


def say_pieces(book):
    """The open pieces as they stand."""
    return written_rows([show_row(row) for row in book.pieces().told()])


def say_latest(book):
    """In which turn each open piece is done at the latest."""
    return written_rows([f"{name} {turn}" for name, turn in book.latest().items()])


def say_need(book, start, end):
    """The need and the room of a stretch."""
    stretch = (start, end)
    return written([need(book.pieces(), stretch, book.failings_left()), room(stretch)])


def say_paper(book):
    """The first stretch that is too short for one failing more than the open pieces bear."""
    number, kept, crowd = borne_papers(book.pieces())
    return "nothing" if crowd is None else written_crowd(crowd)


def say_later(book, name, first, last, length):
    """How many turns more at its end would let a piece in."""
    row = book.asked_row(name, first, last, length)
    return written_least(later_end(book.pieces(), book.failings_left(), row))


def say_earlier(book, name, first, last, length):
    """How many turns more at its beginning would let a piece in."""
    row = book.asked_row(name, first, last, length)
    return written_least(earlier_start(book.pieces(), book.failings_left(), row, book.now()))


def say_fewer(book, name, first, last, length):
    """With how many failings a piece could be let in."""
    row = book.asked_row(name, first, last, length)
    return str(fewer(book.pieces(), book.failings_left(), row))


def say_instead(book, name, first, last, length):
    """The open pieces in whose place a piece would be let in."""
    row = book.asked_row(name, first, last, length)
    return written([other for other, paper in instead_of(book.pieces(), book.failings_left(), row)])


ANSWERS = {
    "ask NAME FIRST LAST LENGTH": say_ask,
    "work": say_work,
    "work N": say_work_on,
    "rest": say_rest,
    "failed": say_failed,
    "done": say_done,
    "off NAME": say_off,
    "longer NAME LAST": say_longer,
    "now": say_now,
    "left": say_left,
    "bears": say_bears,
    "state NAME": say_state,
    "pieces": say_pieces,
    "latest": say_latest,
    "need START END": say_need,
    "paper": say_paper,
    "later NAME FIRST LAST LENGTH": say_later,
    "earlier NAME FIRST LAST LENGTH": say_earlier,
    "fewer NAME FIRST LAST LENGTH": say_fewer,
    "instead NAME FIRST LAST LENGTH": say_instead,
}


class Desk:
    """A desk for some failings."""

    def __init__(self, failings):
        self.book = Book(failings)

    def say(self, line):
        """The answer to a line."""
        form, things = read_line(line, list(ANSWERS))
        answer = ANSWERS[form]
        return answer(self.book, *things)
