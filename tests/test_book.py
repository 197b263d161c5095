"""Points 81 to 86: a book of promises."""

import copy
import random
import unittest

from failslack.bearing import borne
from failslack.book import Book
from failslack.errors import BadPieces, NoFailing, NoFailings, NoPiece, NoRest, NoWord, Over, Past, Waits
from failslack.papers import Crowd, Kept
from failslack.pieces import Pieces
from failslack.worst import worst_turns
from tests.plainbook import PlainBook, all_told, answer
from tests.things import all_things, is_int, refusal


def book_of(failings, *rows):
    """A book for which all these were asked."""
    book = Book(failings)
    for row in rows:
        book.ask(*row)
    return book


def works(book, many):
    return [book.work() for _ in range(many)]


class Unchanged(unittest.TestCase):
    def refused(self, book, error, call, *handed):
        """The error, where the book is as it was behind it."""
        before = all_told(book)
        told = refusal(self, error, call, *handed)
        self.assertEqual(all_told(book), before)
        return told

    def bad(self, book, at, why, call, *handed):
        error = self.refused(book, BadPieces, call, *handed)
        self.assertEqual((error.at, error.why), (at, why), handed)


class MadeTest(Unchanged):
    def test_failings_at_the_bounds(self):
        for failings in (0, 1, 199, 200):
            book = Book(failings)
            self.assertEqual((book.now(), book.failings_left()), (0, failings))
            self.assertEqual(book.pieces().told(), ())
            self.assertEqual((book.bears(), book.latest(), book.history()), (None, {}, []))

    def test_any_thing_as_failings(self):
        for thing in [-1, 201, 300, *all_things()]:
            if is_int(thing, 0, 200):
                self.assertEqual(Book(thing).failings_left(), thing)
            else:
                self.assertIs(refusal(self, NoFailings, Book, thing).found, thing)

    def test_open_pieces_as_they_stand_in_the_order_in_which_they_were_promised(self):
        book = book_of(1, ("mow", 3, 40, 5), ("hay", 2, 20, 4), ("oil", 30, 60, 2))
        self.assertIs(type(book.pieces()), Pieces)
        self.assertEqual(book.pieces().told(), (("mow", 3, 40, 5, 5), ("hay", 2, 20, 4, 4), ("oil", 30, 60, 2, 2)))
        self.assertEqual(works(book, 5), [None, None, "hay", "hay", "hay"])
        self.assertEqual(book.now(), 5)
        self.assertEqual(book.pieces().told(), (("mow", 5, 40, 5, 5), ("hay", 5, 20, 4, 1), ("oil", 30, 60, 2, 2)))
        book.work()
        book.done()
        self.assertEqual(book.pieces().told(), (("mow", 6, 40, 5, 5), ("oil", 30, 60, 2, 2)))

    def test_a_window_that_is_over_is_empty(self):
        book = book_of(0, ("mow", 0, 1, 2))
        works(book, 2)
        self.assertEqual(book.pieces().told(), (("mow", 2, 1, 2, 0),))
        self.assertEqual(book.bears(), 0)
        self.assertEqual(book.latest(), {"mow": 1})

    def test_pieces_that_were_told_stay_as_they_were(self):
        book = book_of(1, ("mow", 3, 40, 5))
        told = book.pieces()
        works(book, 6)
        book.call_off("mow")
        self.assertEqual(told.told(), (("mow", 3, 40, 5, 5),))

    def test_each_method_stands_in_the_class(self):
        for name in ("now", "failings_left", "pieces", "ask", "asked_row", "work", "rest", "failed", "done", "call_off",
                     "longer", "state", "bears", "latest", "history"):
            self.assertIn(name, vars(Book))


class AskTest(Unchanged):
    def test_a_piece_that_is_promised(self):
        book = Book(2)
        paper = book.ask("mow", 3, 40, 5)
        self.assertIs(type(paper), Kept)
        self.assertEqual((paper.told(), paper.holds()), (("kept", 2), True))
        self.assertEqual(paper.order({"mow": 1})[0], (3, "mow"))
        self.assertEqual(book.pieces().told(), (("mow", 3, 40, 5, 5),))
        self.assertEqual(book.state("mow"), "waiting")

    def test_a_piece_that_is_refused(self):
        book = book_of(2, ("mow", 3, 40, 5))
        before = book.pieces().told()
        paper = book.ask("hay", 10, 20, 4)
        self.assertIs(type(paper), Crowd)
        self.assertEqual((paper.told(), paper.holds()), (("crowd", 2, 10, 20), True))
        self.assertEqual((paper.names(), paper.over()), (["hay"], 1))
        self.assertEqual((book.pieces().told(), book.now(), book.failings_left()), (before, 0, 2))
        self.assertEqual(book.state("hay"), "refused")
        self.assertEqual(book.history(), [("ask", "mow", "kept"), ("ask", "hay", "crowd")])

    def test_the_paper_is_of_the_pieces_as_they_stand(self):
        book = book_of(1, ("mow", 0, 40, 5))
        works(book, 3)
        # Two tries of hay take eight turns, and from turn 3 to turn 9 there are seven.
        paper = book.ask("hay", 0, 9, 4)
        self.assertEqual(paper.told(), ("crowd", 1, 3, 9))
        paper = book.ask("hay", 0, 10, 4)
        self.assertEqual(paper.told(), ("kept", 1))
        self.assertEqual(paper.order({}), [(3, "hay"), (4, "hay"), (5, "hay"), (6, "hay"), (7, "mow"), (8, "mow")])

    def test_the_paper_is_for_the_failings_left(self):
        book = book_of(1, ("mow", 0, 20, 2))
        works(book, 2)
        book.failed()
        self.assertEqual(book.ask("hay", 2, 5, 4).told(), ("kept", 0))

    def test_a_paper_stays_as_it_was(self):
        book = Book(2)
        paper = book.ask("mow", 0, 40, 5)
        crowd = book.ask("hay", 1, 2, 5)
        due = (paper.told(), paper.order({"mow": 2}), crowd.told(), crowd.names(), crowd.over())
        works(book, 5)
        book.failed()
        book.call_off("mow")
        self.assertEqual((paper.told(), paper.order({"mow": 2}), crowd.told(), crowd.names(), crowd.over()), due)
        self.assertEqual((paper.holds(), crowd.holds()), (True, True))

    def test_each_word_of_a_refusal(self):
        book = book_of(1, ("mow", 3, 40, 5))
        for call in (book.ask, book.asked_row):
            self.bad(book, 0, "name", call, "Mow", 0, 9, 1)
            self.bad(book, 0, "name", call, "abcdefghi", 0, 9, 1)
            self.bad(book, 0, "first", call, "hay", -1, 9, 1)
            self.bad(book, 0, "first", call, "hay", 201, 9, 1)
            self.bad(book, 0, "last", call, "hay", 0, 200, 1)
            self.bad(book, 0, "last", call, "hay", 9, 7, 1)
            self.bad(book, 0, "last", call, "hay", 0, -1, 1)
            self.bad(book, 0, "length", call, "hay", 0, 9, 0)
            self.bad(book, 0, "length", call, "hay", 0, 9, 13)
            self.bad(book, 0, "double", call, "mow", 0, 9, 1)

    def test_any_things(self):
        book = book_of(1, ("hay", 3, 40, 5))
        plain = PlainBook(1)
        plain.ask("hay", 3, 40, 5)
        for thing in all_things():
            for handed in ((thing, 0, 9, 1), ("oil", thing, 9, 1), ("oil", 0, thing, 1), ("oil", 0, 9, thing),
                           (thing, thing, thing, thing), ("hay", thing, thing, 1), ("hay", 0, 9, thing)):
                self.assertEqual(answer(book.asked_row, *handed), answer(plain.asked_row, *handed), handed)
                if answer(book.asked_row, *handed)[0] == "refused":
                    self.assertEqual(answer(book.ask, *handed), answer(plain.asked_row, *handed))
        self.assertEqual(book.history(), [("ask", "hay", "kept")])

    def test_the_order_of_refusals(self):
        book = book_of(0, *((f"p{at}", 0, 199, 1) for at in range(30)))
        self.assertEqual(len(book.pieces().told()), 30)
        book.work()
        book.done()
        book.ask("p0", 0, 199, 1)
        for call in (book.ask, book.asked_row):
            self.bad(book, 0, "name", call, "", 201, 200, 13)
            self.bad(book, 0, "first", call, "p1", 201, 200, 13)
            self.bad(book, 0, "last", call, "p1", 0, 200, 13)
            self.bad(book, 0, "length", call, "p1", 0, 0, 13)
            self.bad(book, 0, "double", call, "p1", 0, 0, 1)
            self.bad(book, 30, "many", call, "q", 0, 0, 1)
        book.call_off("p1")
        for call in (book.ask, book.asked_row):
            self.bad(book, 0, "double", call, "p2", 0, 0, 1)
            self.assertEqual(self.refused(book, Past, call, "q", 0, 0, 1).last, 0)

    def test_a_thirty_first_open_piece(self):
        book = book_of(0, *((f"p{at}", 0, 199, 1) for at in range(30)))
        self.bad(book, 30, "many", book.ask, "q", 0, 199, 1)
        self.bad(book, 30, "many", book.asked_row, "q", 0, 199, 1)
        book.call_off("p7")
        self.assertEqual(book.ask("q", 0, 199, 1).told(), ("kept", 0))
        self.assertEqual(book.pieces().names()[-1], "q")

    def test_a_last_turn_just_ahead_of_the_turn_that_comes_next(self):
        book = Book(0)
        works(book, 10)
        for last in (0, 8, 9):
            self.assertEqual(self.refused(book, Past, book.ask, "mow", 0, last, 1).last, last)
            self.assertEqual(self.refused(book, Past, book.asked_row, "mow", 0, last, 1).last, last)
        self.assertEqual(book.asked_row("mow", 0, 10, 1), ("mow", 10, 10, 1, 1))
        self.assertEqual(book.ask("mow", 0, 10, 1).told(), ("kept", 0))

    def test_behind_the_last_turn(self):
        book = Book(3)
        works(book, 200)
        self.assertEqual(self.refused(book, Past, book.ask, "mow", 0, 199, 1).last, 199)
        self.assertEqual(self.refused(book, Past, book.ask, "mow", 200, 199, 1).last, 199)

    def test_the_row_is_told_and_nothing_is_asked(self):
        book = book_of(1, ("mow", 0, 40, 5))
        works(book, 4)
        before = all_told(book)
        self.assertEqual(book.asked_row("hay", 10, 20, 4), ("hay", 10, 20, 4, 4))
        self.assertEqual(book.asked_row("hay", 2, 20, 4), ("hay", 4, 20, 4, 4))
        self.assertEqual(book.asked_row("hay", 10, 9, 12), ("hay", 10, 9, 12, 12))
        self.assertEqual(book.asked_row("hay", 200, 199, 12), ("hay", 200, 199, 12, 12))
        self.assertEqual(all_told(book), before)
        self.assertEqual(refusal(self, NoPiece, book.state, "hay").found, "hay")

    def test_an_empty_window_is_refused(self):
        book = Book(0)
        self.assertEqual(book.ask("mow", 10, 9, 1).told(), ("crowd", 0, 10, 9))

    def test_a_name_is_asked_for_anew(self):
        book = book_of(1, ("mow", 0, 9, 2), ("hay", 0, 2, 9), ("oil", 0, 60, 1))
        book.call_off("mow")
        self.assertEqual(book.ask("mow", 20, 39, 3).told(), ("kept", 1))
        self.assertEqual(book.ask("hay", 20, 59, 4).told(), ("kept", 1))
        self.assertEqual(book.pieces().names(), ["oil", "mow", "hay"])
        self.assertEqual(book.state("mow"), "waiting")
        book.work()
        book.done()
        self.assertEqual(book.ask("oil", 5, 60, 2).told(), ("kept", 1))
        self.assertEqual(book.pieces().told(), (("mow", 20, 39, 3, 3), ("hay", 20, 59, 4, 4), ("oil", 5, 60, 2, 2)))


class TurnTest(Unchanged):
    def test_the_nearest_last_turn(self):
        book = book_of(0, ("mow", 0, 40, 3), ("hay", 2, 20, 1), ("oil", 1, 30, 1))
        told = []
        for _ in range(6):
            told.append(book.work())
            if told[-1] is not None and book.state(told[-1]) == "ended":
                book.done()
        self.assertEqual(told, ["mow", "oil", "hay", "mow", "mow", None])
        self.assertEqual(book.now(), 6)

    def test_of_equal_last_turns_the_one_promised_first(self):
        book = book_of(0, ("b", 0, 20, 1), ("a", 0, 20, 1), ("c", 0, 20, 1))
        self.assertEqual(book.work(), "b")
        book.done()
        book.ask("b", 0, 20, 1)
        self.assertEqual(book.work(), "a")
        book.done()
        self.assertEqual(book.work(), "c")
        book.done()
        self.assertEqual(book.work(), "b")

    def test_a_later_last_turn_changes_who_is_nearest(self):
        book = book_of(0, ("a", 0, 20, 3), ("b", 0, 25, 3))
        self.assertEqual(book.work(), "a")
        book.longer("a", 26)
        self.assertEqual(book.work(), "b")
        book.longer("b", 26)
        self.assertEqual(book.work(), "a")

    def test_none_where_none_can_be_worked_on(self):
        book = book_of(0, ("mow", 2, 9, 1))
        self.assertEqual(works(book, 3), [None, None, "mow"])
        self.assertEqual(book.history()[1:], [("work", 0, None), ("work", 1, None), ("work", 2, "mow")])
        self.assertIsNone(Book(5).work())

    def test_over(self):
        book = Book(0)
        works(book, 199)
        self.assertEqual(book.now(), 199)
        self.assertIsNone(book.rest())
        self.assertEqual(book.now(), 200)
        for call in (book.work, book.rest):
            self.refused(book, Over, call)

    def test_over_goes_ahead_of_waits(self):
        book = book_of(0, ("mow", 199, 199, 1))
        works(book, 200)
        self.assertEqual((book.now(), book.state("mow")), (200, "ended"))
        for call in (book.work, book.rest):
            self.refused(book, Over, call)
        self.assertEqual(book.done(), "mow")
        self.refused(book, Over, book.work)

    def test_waits(self):
        book = book_of(1, ("hay", 0, 99, 9), ("mow", 0, 9, 2))
        works(book, 2)
        for call in (book.work, book.rest):
            self.assertEqual(self.refused(book, Waits, call).name, "mow")
        book.failed()
        works(book, 2)
        self.assertEqual(self.refused(book, Waits, book.work).name, "mow")
        book.done()
        self.assertEqual(book.work(), "hay")

    def test_waits_goes_ahead_of_no_rest(self):
        book = book_of(0, ("mow", 0, 0, 1), ("hay", 1, 1, 1))
        book.work()
        self.assertEqual(self.refused(book, Waits, book.rest).name, "mow")
        book.done()
        self.refused(book, NoRest, book.rest)

    def test_a_rest_that_is_let_by(self):
        book = book_of(1, ("mow", 0, 9, 4))
        self.assertIsNone(book.rest())
        self.assertIsNone(book.rest())
        self.assertEqual(book.pieces().told(), (("mow", 2, 9, 4, 4),))
        self.assertEqual(book.history()[1:], [("rest", 0), ("rest", 1)])
        error = self.refused(book, NoRest, book.rest)
        self.assertEqual((error.start, error.end), (3, 9))
        self.assertEqual(book.work(), "mow")

    def test_the_first_stretch_that_is_too_short_then(self):
        book = book_of(0, ("hay", 0, 9, 5), ("mow", 0, 4, 5), ("oil", 12, 12, 1))
        error = self.refused(book, NoRest, book.rest)
        self.assertEqual((error.start, error.end), (1, 4))

    def test_a_rest_before_a_window(self):
        book = book_of(0, ("mow", 3, 4, 2))
        for _ in range(3):
            book.rest()
        self.assertEqual(self.refused(book, NoRest, book.rest).start, 4)

    def test_a_rest_where_nobody_is_open(self):
        book = Book(200)
        for turn in range(200):
            self.assertEqual(book.now(), turn)
            book.rest()


class WordTest(Unchanged):
    def test_no_word_is_wanting(self):
        book = book_of(0, ("mow", 0, 9, 2))
        self.refused(Book(3), NoWord, Book(3).failed)
        for call in (book.failed, book.done):
            self.refused(book, NoWord, call)
        book.work()
        for call in (book.failed, book.done):
            self.refused(book, NoWord, call)

    def test_no_word_goes_ahead_of_no_failing(self):
        self.refused(Book(0), NoWord, Book(0).failed)

    def test_no_failing_is_left(self):
        book = book_of(1, ("mow", 0, 9, 2))
        works(book, 2)
        self.assertEqual(book.failed(), "mow")
        works(book, 2)
        self.refused(book, NoFailing, book.failed)
        self.assertEqual(book.done(), "mow")

    def test_it_failed(self):
        book = book_of(2, ("mow", 0, 30, 3), ("hay", 0, 60, 4))
        works(book, 3)
        self.assertEqual(book.failed(), "mow")
        self.assertEqual(book.failings_left(), 1)
        self.assertEqual(book.pieces().told(), (("mow", 3, 30, 3, 3), ("hay", 3, 60, 4, 4)))
        self.assertEqual(book.now(), 3)
        self.refused(book, NoWord, book.failed)

    def test_it_is_done(self):
        book = book_of(2, ("mow", 0, 30, 3), ("hay", 0, 60, 4))
        works(book, 3)
        self.assertEqual(book.done(), "mow")
        self.assertEqual((book.failings_left(), book.now()), (2, 3))
        self.assertEqual(book.pieces().told(), (("hay", 3, 60, 4, 4),))
        self.refused(book, NoWord, book.done)


class StateTest(Unchanged):
    def test_called_off(self):
        book = book_of(1, ("mow", 0, 30, 3), ("hay", 0, 60, 4))
        self.assertIsNone(book.call_off("mow"))
        self.assertEqual(book.pieces().told(), (("hay", 0, 60, 4, 4),))
        self.assertEqual(book.state("mow"), "off")
        self.assertEqual(self.refused(book, NoPiece, book.call_off, "mow").found, "mow")

    def test_called_off_with_nothing_left(self):
        book = book_of(0, ("mow", 0, 30, 3), ("hay", 0, 60, 4))
        works(book, 3)
        book.call_off("mow")
        self.refused(book, NoWord, book.done)
        self.assertEqual(book.work(), "hay")
        self.assertEqual((book.state("mow"), book.failings_left()), ("off", 0))

    def test_a_later_last_turn(self):
        book = book_of(1, ("mow", 3, 30, 3), ("hay", 0, 60, 4))
        works(book, 2)
        self.assertIsNone(book.longer("mow", 31))
        self.assertEqual(book.pieces().told(), (("mow", 3, 31, 3, 3), ("hay", 2, 60, 4, 2)))
        self.assertIsNone(book.longer("mow", 199))
        self.assertEqual(book.pieces().row("mow"), ("mow", 3, 199, 3, 3))
        self.assertEqual(book.history()[-2:], [("longer", "mow", 31), ("longer", "mow", 199)])

    def test_a_later_last_turn_of_a_window_that_is_over(self):
        book = book_of(0, ("mow", 0, 2, 3))
        works(book, 3)
        self.assertEqual(book.pieces().told(), (("mow", 3, 2, 3, 0),))
        book.longer("mow", 8)
        self.assertEqual(book.pieces().told(), (("mow", 3, 8, 3, 0),))

    def test_what_is_no_later_last_turn(self):
        book = book_of(1, ("mow", 3, 30, 3))
        for last in (30, 29, 0, -1, 200, 10 ** 29):
            self.bad(book, 0, "last", book.longer, "mow", last)
        book.longer("mow", 199)
        self.bad(book, 0, "last", book.longer, "mow", 199)

    def test_a_later_last_turn_is_told_as_at_zero_whatever_its_place(self):
        book = book_of(1, ("mow", 3, 30, 3), ("hay", 3, 60, 3))
        self.bad(book, 0, "last", book.longer, "hay", 60)

    def test_any_thing_as_a_later_last_turn(self):
        for thing in all_things():
            book = book_of(1, ("mow", 3, 10, 3))
            if is_int(thing, 11, 199):
                book.longer("mow", thing)
                self.assertEqual(book.pieces().row("mow")[2], thing)
            else:
                self.bad(book, 0, "last", book.longer, "mow", thing)

    def test_no_piece_goes_ahead_of_all_else(self):
        book = book_of(1, ("hay", 3, 10, 3), ("oil", 0, 0, 9), ("saw", 0, 9, 1))
        book.call_off("saw")
        for thing in ["oil", "saw", "Hay", *all_things()]:
            self.assertIs(self.refused(book, NoPiece, book.call_off, thing).found, thing)
            for last in (11, 5, 200, None, "11"):
                self.assertIs(self.refused(book, NoPiece, book.longer, thing, last).found, thing)

    def test_the_states_of_open_pieces(self):
        book = book_of(1, ("mow", 0, 30, 3))
        told = [book.state("mow")]
        for _ in range(3):
            book.work()
            told.append(book.state("mow"))
        book.failed()
        told.append(book.state("mow"))
        book.work()
        told.append(book.state("mow"))
        self.assertEqual(told, ["waiting", "begun", "begun", "ended", "waiting", "begun"])

    def test_of_one_turn(self):
        book = book_of(1, ("mow", 0, 30, 1))
        self.assertEqual(book.state("mow"), "waiting")
        book.work()
        self.assertEqual(book.state("mow"), "ended")
        book.done()
        self.assertEqual(book.state("mow"), "done")

    def test_the_last_one_of_several(self):
        book = book_of(0, ("mow", 0, 0, 2))
        told = [book.state("mow")]
        book.ask("mow", 0, 30, 1)
        told.append(book.state("mow"))
        book.call_off("mow")
        told.append(book.state("mow"))
        book.ask("mow", 0, 30, 1)
        book.work()
        book.done()
        told.append(book.state("mow"))
        book.ask("mow", 1, 1, 2)
        told.append(book.state("mow"))
        self.assertEqual(told, ["refused", "waiting", "off", "done", "refused"])

    def test_what_is_refused_with_an_error_is_no_asking(self):
        book = book_of(0, ("mow", 0, 30, 1))
        self.bad(book, 0, "length", book.ask, "hay", 0, 30, 13)
        self.assertEqual(self.refused(book, NoPiece, book.state, "hay").found, "hay")
        book.call_off("mow")
        self.bad(book, 0, "length", book.ask, "mow", 0, 30, 13)
        self.assertEqual(book.state("mow"), "off")

    def test_any_thing_as_a_name(self):
        book = book_of(1, ("hay", 3, 10, 3), ("oil", 0, 0, 9))
        for thing in all_things():
            self.assertIs(self.refused(book, NoPiece, book.state, thing).found, thing)
        book.ask("mow", 0, 199, 1)
        self.assertEqual(book.state("mow"), "waiting")


class ToldTest(Unchanged):
    def test_behind_each_kind_of_deed(self):
        book = Book(2)
        told = []

        def look():
            told.append((book.bears(), book.latest()))

        look()
        book.ask("mow", 0, 29, 4)
        look()
        book.ask("hay", 0, 9, 9)
        look()
        book.ask("hay", 3, 39, 3)
        look()
        book.rest()
        look()
        works(book, 4)
        look()
        book.failed()
        look()
        works(book, 4)
        book.done()
        look()
        book.longer("hay", 49)
        look()
        book.call_off("hay")
        look()
        self.assertEqual(told, [
            (None, {}), (6, {"mow": 11}), (6, {"mow": 11}), (6, {"mow": 11, "hay": 14}), (6, {"mow": 12, "hay": 15}),
            (6, {"mow": 12, "hay": 15}), (5, {"mow": 12, "hay": 15}), (9, {"hay": 14}), (12, {"hay": 14}), (None, {}),
        ])
        self.assertEqual(book.history(), [
            ("ask", "mow", "kept"), ("ask", "hay", "crowd"), ("ask", "hay", "kept"), ("rest", 0), ("work", 1, "mow"),
            ("work", 2, "mow"), ("work", 3, "mow"), ("work", 4, "mow"), ("failed", "mow"), ("work", 5, "mow"),
            ("work", 6, "mow"), ("work", 7, "mow"), ("work", 8, "mow"), ("done", "mow"), ("longer", "hay", 49),
            ("off", "hay"),
        ])

    def test_more_failings_are_borne_than_are_left(self):
        book = book_of(0, ("mow", 0, 199, 1))
        self.assertEqual(book.bears(), 199)
        self.assertEqual(book.latest(), {"mow": 0})

    def test_latest_in_the_order_of_the_pieces(self):
        book = book_of(1, ("z", 0, 90, 2), ("a", 5, 50, 3), ("m", 0, 70, 1))
        self.assertEqual(list(book.latest()), ["z", "a", "m"])

    def test_latest_is_what_comes_where_it_is_only_worked_on(self):
        for failings in (0, 1, 2):
            book = book_of(failings, ("a", 0, 30, 3), ("b", 2, 40, 4), ("c", 1, 50, 2))
            works(book, 2)
            due = worst_turns(book.pieces(), failings)
            self.assertEqual(book.latest(), due)
            for who in ("a", "b", "c"):
                self.assertLessEqual(self.done_in(failings, who), book.latest()[who])

    def done_in(self, failings, who):
        """The turn in which a piece is done where it fails as often as it may."""
        book = book_of(failings, ("a", 0, 30, 3), ("b", 2, 40, 4), ("c", 1, 50, 2))
        while book.state(who) != "done":
            name = book.work()
            if name is not None and book.state(name) == "ended":
                if name == who and book.failings_left() > 0:
                    book.failed()
                else:
                    book.done()
        return book.now() - 1

    def test_lists_and_dicts_that_were_told_are_the_askers_own(self):
        book = book_of(1, ("mow", 0, 30, 3))
        before = all_told(book)
        book.history().append(("rest", 9))
        book.history().clear()
        book.latest()["mow"] = 9
        book.latest().clear()
        book.pieces().names().clear()
        self.assertEqual(all_told(book), before)

    def test_the_same_question_has_an_equal_answer(self):
        one = book_of(1, ("mow", 0, 30, 3), ("hay", 0, 30, 12))
        two = book_of(1, ("mow", 0, 30, 3), ("hay", 0, 30, 12))
        self.assertEqual(all_told(one), all_told(one))
        self.assertEqual(all_told(one), all_told(two))
        self.assertEqual(one.ask("oil", 0, 3, 9).told(), two.ask("oil", 0, 3, 9).told())
        self.assertEqual(answer(one.rest), answer(two.rest))

    def test_two_books_share_nothing(self):
        one = Book(1)
        two = Book(1)
        one.ask("mow", 0, 30, 3)
        works(one, 3)
        one.failed()
        self.assertEqual(all_told(two), all_told(Book(1)))

    def test_what_is_handed_in_is_not_changed(self):
        book = book_of(1, ("hay", 0, 30, 3))
        for thing in all_things():
            before = copy.deepcopy(thing)
            for call, handed in ((Book, (thing,)), (book.asked_row, (thing,) * 4), (book.call_off, (thing,)),
                                 (book.longer, (thing, thing)), (book.state, (thing,))):
                try:
                    call(*handed)
                except (NoFailings, BadPieces, NoPiece):
                    pass
            self.assertEqual(thing, before)


class PlainTest(unittest.TestCase):
    """The book beside one that goes by the plain words, through many deeds, good ones and bad ones."""

    def deed(self, chance, book):
        name = chance.choice(["a", "b", "c", "d", "e"])
        first = chance.randint(0, 60) if chance.random() < 0.9 else chance.randint(-1, 201)
        last = first + chance.randint(-2, 40)
        kind = chance.choice(["ask", "ask", "work", "work", "work", "work", "work", "rest", "failed", "done", "off",
                              "longer", "asked_row"])
        if kind in ("ask", "asked_row"):
            first += book.now() // 2
            return kind, (name, first, max(last, book.now() - 1), chance.randint(0 if last % 9 == 0 else 1, 6))
        if kind == "off":
            return ("call_off", (name,)) if chance.random() < 0.2 else ("state", (name,))
        if kind == "longer":
            return kind, (name, chance.randint(0, 201))
        return kind, ()

    def goes_through(self, seed, many):
        chance = random.Random(seed)
        failings = chance.choice([0, 1, 2, 3, 5])
        book = Book(failings)
        plain = PlainBook(failings)
        seen = set()
        for _ in range(many):
            kind, handed = self.deed(chance, book)
            told = answer(getattr(book, kind), *handed)
            self.assertEqual(told, answer(getattr(plain, kind), *handed), (seed, kind, handed))
            seen.add((kind, *told[:2]) if told[0] == "refused" else (kind, told[0]))
            self.assertEqual(book.pieces().told(), tuple(plain.standing()))
            self.assertEqual((book.now(), book.failings_left()), (plain.turn, plain.left))
            self.assertEqual(book.history(), plain.done_things)
            for name in "abcde":
                self.assertEqual(answer(book.state, name), answer(plain.state, name))
            self.assertEqual(book.bears(), borne(book.pieces()))
        self.assertEqual(book.bears(), plain.bears())
        self.assertEqual(book.latest(), worst_turns(Pieces(plain.standing()), plain.left))
        return seen

    def test_many_deeds(self):
        seen = set()
        for seed in range(40):
            seen |= self.goes_through(seed, 150)
        for due in (("ask", "told"), ("ask", "refused", "BadPieces"), ("ask", "refused", "Past"), ("work", "told"),
                    ("work", "refused", "Waits"), ("rest", "told"), ("rest", "refused", "Waits"),
                    ("rest", "refused", "NoRest"), ("failed", "told"), ("failed", "refused", "NoWord"),
                    ("failed", "refused", "NoFailing"), ("done", "told"), ("done", "refused", "NoWord"),
                    ("call_off", "told"), ("call_off", "refused", "NoPiece"), ("longer", "told"),
                    ("longer", "refused", "NoPiece"), ("longer", "refused", "BadPieces"), ("asked_row", "told"),
                    ("asked_row", "refused", "Past")):
            self.assertIn(due, seen)

    def test_until_all_turns_are_over(self):
        seen = set()
        for seed in range(100, 103):
            seen |= self.goes_through(seed, 800)
        self.assertIn(("work", "refused", "Over"), seen)


if __name__ == "__main__":
    unittest.main()
