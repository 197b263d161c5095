"""Points 101 to 105: a desk."""

import copy
import random
import unittest

from failslack.bearing import borne_papers
from failslack.book import Book
from failslack.desk import Desk
from failslack.errors import (BadPieces, NoFailing, NoFailings, NoLine, NoPiece, NoRest, NoStretch, NotRefused, NoWord,
                              Over, Past, SlackError, Waits)
from failslack.hindsight import earlier_start, fewer, instead_of, later_end
from failslack.stretches import is_stretch, need, room
from failslack.texts import show_pieces
from tests.things import all_things, is_int, refusal

FORMS = ("ask NAME FIRST LAST LENGTH", "work", "work N", "rest", "failed", "done", "off NAME", "longer NAME LAST",
         "now", "left", "bears", "state NAME", "pieces", "latest", "need START END", "paper",
         "later NAME FIRST LAST LENGTH", "earlier NAME FIRST LAST LENGTH", "fewer NAME FIRST LAST LENGTH",
         "instead NAME FIRST LAST LENGTH")
NUMBERS = ("FIRST", "LAST", "LENGTH", "START", "END", "N")
TELLING = ("now", "left", "bears", "pieces", "latest", "paper")


def desk_of(failings, *lines):
    """A desk to which all these were told."""
    desk = Desk(failings)
    for line in lines:
        desk.say(line)
    return desk


def all_said(desk):
    """What a desk answers to all that changes nothing."""
    states = []
    for name in ("mow", "hay", "oil", "saw", "new"):
        try:
            states.append(desk.say(f"state {name}"))
        except NoPiece:
            states.append(None)
    return [desk.say(line) for line in TELLING] + states


def filled(form, name="mow", number="5"):
    """A line of this form."""
    return " ".join(name if word == "NAME" else number if word in NUMBERS else word for word in form.split(" "))


class Said(unittest.TestCase):
    def says(self, desk, *pairs):
        for line, due in pairs:
            self.assertEqual(desk.say(line), due, line)

    def refused(self, desk, error, line):
        """The error, where the desk is as it was behind it."""
        before = all_said(desk)
        told = refusal(self, error, desk.say, line)
        self.assertEqual(all_said(desk), before)
        return told

    def bad(self, desk, at, why, line):
        error = self.refused(desk, BadPieces, line)
        self.assertEqual((error.at, error.why), (at, why), line)


class MadeTest(Said):
    def test_any_thing_as_failings(self):
        for thing in [-1, 0, 200, 201, *all_things()]:
            if is_int(thing, 0, 200):
                self.says(Desk(thing), ("left", str(thing)), ("now", "0"))
            else:
                self.assertIs(refusal(self, NoFailings, Desk, thing).found, thing)

    def test_the_method_stands_in_the_class(self):
        self.assertIn("say", vars(Desk))

    def test_two_desks_share_nothing(self):
        one = Desk(2)
        two = Desk(2)
        one.say("ask mow 0 40 5")
        one.say("work 5")
        one.say("failed")
        self.assertEqual(all_said(two), all_said(Desk(2)))


class LineTest(Said):
    def setUp(self):
        self.desk = desk_of(2, "ask mow 3 40 5")

    def no_line(self, line):
        self.assertIs(self.refused(self.desk, NoLine, line).found, line)

    def test_any_thing_in_the_place_of_a_line(self):
        for thing in all_things():
            self.no_line(thing)
        for thing in (["now"], ("now",), {"now": 1}, b"now"):
            self.no_line(thing)

    def test_each_form_is_one(self):
        for form in FORMS:
            desk = desk_of(2, "ask mow 3 40 5")
            try:
                self.assertIs(type(desk.say(filled(form))), str)
            except NoLine:
                self.fail(form)
            except SlackError:
                pass

    def test_blanks_at_the_ends_and_side_by_side(self):
        for form in FORMS:
            line = filled(form)
            for other in (f" {line}", f"{line} ", f"  {line}", f" {line} ", line.replace(" ", "  ")):
                if other != line:
                    self.no_line(other)
        for line in ("", " ", "  ", "work  5", "work 5 ", "\n", "now\n", "\nnow", "work\n5", "off mow\n"):
            self.no_line(line)

    def test_words_too_many_and_too_few(self):
        for form in FORMS:
            line = filled(form)
            if line != "work":
                self.no_line(f"{line} 5")
                self.no_line(f"{line} mow")
            if " " in line and line != "work 5":
                self.no_line(line.rpartition(" ")[0])

    def test_other_words(self):
        for form in FORMS:
            line = filled(form)
            self.no_line(line.upper())
            self.no_line(line.capitalize())
            self.no_line(f"x{line}")
        for line in ("nothing", "promised", "ok", "help", "mow", "5", "NAME", "work N", "off NAME"):
            self.no_line(line)

    def test_figures(self):
        for form in FORMS:
            for number in ("05", "00", "-5", "+5", "5.", "", "five", "10000", "1_0", "5\n", "mow"):
                if filled(form, "mow", number) != filled(form):
                    self.no_line(filled(form, "mow", number))

    def test_names(self):
        for form in FORMS:
            for name in ("Mow", "", "5", "1a", "abcdefghi", "a_b", "a-b", "mow\n", "~"):
                if filled(form, name) != filled(form):
                    self.no_line(filled(form, name))

    def test_figures_of_four_signs_have_the_form(self):
        self.bad(self.desk, 0, "first", "ask hay 9999 10 4")
        self.bad(self.desk, 0, "last", "longer mow 9999")
        self.assertEqual(self.refused(self.desk, NoStretch, "need 9999 9999").found, (9999, 9999))
        self.assertEqual(len(self.desk.say("work 9999").split(" ")), 8)

    def test_names_of_eight_signs_have_the_form(self):
        self.says(self.desk, ("ask abcdefg8 50 99 1", "promised"), ("state abcdefg8", "waiting"))

    def test_what_is_handed_in_is_not_changed(self):
        for thing in all_things():
            before = copy.deepcopy(thing)
            refusal(self, NoLine, self.desk.say, thing)
            self.assertEqual(thing, before)


class DeedTest(Said):
    def test_ask(self):
        desk = Desk(2)
        self.says(desk, ("ask mow 3 40 5", "promised"), ("ask hay 10 20 4", "refused 10 20 hay"),
                  ("ask oil 3 18 2", "promised"), ("ask hay 3 18 5", "refused 3 18 oil hay"),
                  ("pieces", "mow 3 40 5; oil 3 18 2"), ("state hay", "refused"))

    def test_ask_refused(self):
        desk = desk_of(2, "ask mow 3 40 5", "work 2")
        self.bad(desk, 0, "first", "ask hay 201 20 4")
        self.bad(desk, 0, "last", "ask hay 10 200 4")
        self.bad(desk, 0, "last", "ask hay 10 8 4")
        self.bad(desk, 0, "length", "ask hay 10 20 13")
        self.bad(desk, 0, "length", "ask hay 10 20 0")
        self.bad(desk, 0, "length", "ask mow 0 0 13")
        self.bad(desk, 0, "double", "ask mow 0 0 1")
        self.assertEqual(self.refused(desk, Past, "ask hay 0 1 1").last, 1)
        self.assertEqual(refusal(self, NoPiece, desk.say, "state hay").found, "hay")

    def test_a_thirty_first_piece(self):
        desk = desk_of(0, *(f"ask p{at} 0 199 1" for at in range(30)))
        self.bad(desk, 30, "many", "ask q 0 199 1")
        self.bad(desk, 30, "many", "later q 0 199 1")

    def test_work(self):
        desk = desk_of(1, "ask mow 1 9 2")
        self.says(desk, ("work", "nothing"), ("work", "mow"), ("now", "2"), ("work", "mow"))
        self.assertEqual(self.refused(desk, Waits, "work").name, "mow")

    def test_work_many(self):
        desk = desk_of(1, "ask mow 1 9 2", "ask hay 2 30 3")
        self.says(desk, ("work 2", "nothing mow"), ("work 1", "mow"), ("failed", "mow"), ("work 9", "mow mow"),
                  ("now", "5"), ("done", "mow"), ("work 3", "hay hay hay"), ("done", "hay"),
                  ("work 3", "nothing nothing nothing"), ("now", "11"))

    def test_work_none(self):
        desk = desk_of(0, "ask mow 0 9 1")
        before = all_said(desk)
        self.says(desk, ("work 0", "nothing"))
        self.assertEqual(all_said(desk), before)
        self.says(desk, ("work", "mow"), ("work 0", "nothing"), ("state mow", "ended"), ("done", "mow"))
        desk.say("work 300")
        self.says(desk, ("now", "200"), ("work 0", "nothing"))

    def test_work_many_with_the_first_turn_refused(self):
        desk = desk_of(0, "ask mow 0 9 1", "work")
        for many in (1, 2, 9999):
            self.assertEqual(self.refused(desk, Waits, f"work {many}").name, "mow")
        desk.say("done")
        self.assertEqual(len(desk.say("work 9999").split(" ")), 199)
        for line in ("work", "work 1", "work 9999", "rest"):
            self.refused(desk, Over, line)

    def test_work_up_to_the_end_with_a_try_that_ends_in_the_last_turn(self):
        desk = desk_of(0, "ask mow 199 199 1", "work 199")
        self.says(desk, ("work 5", "mow"), ("now", "200"), ("state mow", "ended"))
        self.refused(desk, Over, "work 5")
        self.says(desk, ("done", "mow"))

    def test_rest(self):
        desk = desk_of(1, "ask mow 0 9 4")
        self.says(desk, ("rest", "ok"), ("rest", "ok"), ("now", "2"))
        error = self.refused(desk, NoRest, "rest")
        self.assertEqual((error.start, error.end), (3, 9))
        desk.say("work 4")
        self.assertEqual(self.refused(desk, Waits, "rest").name, "mow")

    def test_words_of_tries(self):
        desk = desk_of(1, "ask mow 0 9 2")
        self.refused(desk, NoWord, "failed")
        self.refused(desk, NoWord, "done")
        desk.say("work 2")
        self.says(desk, ("failed", "mow"), ("left", "0"), ("work 2", "mow mow"))
        self.refused(desk, NoFailing, "failed")
        self.says(desk, ("done", "mow"), ("state mow", "done"), ("pieces", "nothing"))

    def test_off(self):
        desk = desk_of(1, "ask mow 0 9 2", "ask hay 0 0 2")
        for name in ("hay", "oil"):
            self.assertEqual(self.refused(desk, NoPiece, f"off {name}").found, name)
        self.says(desk, ("off mow", "ok"), ("state mow", "off"), ("pieces", "nothing"))
        self.assertEqual(self.refused(desk, NoPiece, "off mow").found, "mow")

    def test_longer(self):
        desk = desk_of(1, "ask mow 0 9 2")
        for last in (0, 9, 200, 9999):
            self.bad(desk, 0, "last", f"longer mow {last}")
            self.assertEqual(self.refused(desk, NoPiece, f"longer hay {last}").found, "hay")
        self.says(desk, ("longer mow 10", "ok"), ("pieces", "mow 0 10 2"), ("longer mow 199", "ok"),
                  ("pieces", "mow 0 199 2"))


class NumberTest(Said):
    def test_of_an_empty_desk(self):
        self.says(Desk(3), ("now", "0"), ("left", "3"), ("bears", "nothing"), ("pieces", "nothing"),
                  ("latest", "nothing"), ("paper", "nothing"), ("need 0 199", "0 200"), ("need 5 4", "0 0"),
                  ("need 200 199", "0 0"))

    def test_of_open_pieces(self):
        desk = desk_of(2, "ask mow 3 40 5", "ask hay 9 30 4")
        self.says(desk, ("work 6", "nothing nothing nothing mow mow mow"), ("now", "6"), ("left", "2"), ("bears", "4"),
                  ("pieces", "mow 6 40 5 2; hay 9 30 4"), ("latest", "mow 21; hay 20"), ("need 6 40", "16 35"),
                  ("need 9 30", "12 22"), ("need 7 40", "12 34"), ("need 10 199", "0 190"))
        self.says(desk, ("work 2", "mow mow"), ("pieces", "mow 8 40 5 0; hay 9 30 4"), ("failed", "mow"), ("left", "1"),
                  ("pieces", "mow 8 40 5; hay 9 30 4"))

    def test_states(self):
        desk = desk_of(1, "ask mow 0 20 2", "ask hay 0 0 9", "ask oil 0 30 1")
        self.says(desk, ("state mow", "waiting"), ("state hay", "refused"), ("work", "mow"), ("state mow", "begun"),
                  ("work", "mow"), ("state mow", "ended"), ("done", "mow"), ("state mow", "done"), ("off oil", "ok"),
                  ("state oil", "off"))
        self.assertEqual(self.refused(desk, NoPiece, "state saw").found, "saw")

    def test_what_is_no_stretch(self):
        desk = desk_of(1, "ask mow 0 20 2")
        for start, end in ((5, 3), (201, 200), (0, 200), (9999, 0), (200, 198)):
            found = self.refused(desk, NoStretch, f"need {start} {end}").found
            self.assertEqual(found, (start, end))
            self.assertIs(type(found), tuple)

    def test_numbers_that_are_asked_change_nothing(self):
        desk = desk_of(1, "ask mow 0 20 2", "work")
        self.assertEqual(all_said(desk), all_said(desk))


class PaperTest(Said):
    def test_paper(self):
        desk = desk_of(2, "ask mow 3 40 5", "ask hay 9 30 4")
        self.says(desk, ("bears", "4"), ("paper", "9 30 hay"))
        desk.say("off hay")
        self.says(desk, ("bears", "6"), ("paper", "3 40 mow"))
        desk.say("ask hay 3 40 5")
        self.says(desk, ("bears", "5"), ("paper", "3 40 mow hay"))

    def test_later(self):
        desk = desk_of(2, "ask mow 3 40 5")
        self.says(desk, ("later hay 10 20 4", "1"), ("later hay 10 12 4", "9"), ("later hay 190 195 4", "never"),
                  ("later hay 10 9 4", "12"))

    def test_earlier_from_the_turn_that_comes_next_on(self):
        desk = desk_of(2, "ask mow 3 40 5")
        self.says(desk, ("earlier hay 10 20 4", "1"), ("earlier hay 20 20 4", "11"), ("earlier hay 0 10 4", "never"))
        desk.say("work 3")
        self.says(desk, ("earlier hay 10 20 4", "1"), ("earlier hay 10 14 4", "7"), ("earlier hay 10 13 4", "never"),
                  ("earlier hay 0 13 4", "never"), ("later hay 0 13 4", "1"))
        desk.say("rest")
        self.says(desk, ("earlier hay 10 15 4", "6"), ("earlier hay 10 14 4", "never"), ("later hay 0 14 4", "1"))

    def test_fewer(self):
        desk = desk_of(2, "ask mow 3 40 5")
        self.says(desk, ("fewer hay 10 20 4", "1"), ("fewer hay 10 13 4", "0"), ("fewer hay 10 12 4", "-1"))

    def test_instead(self):
        desk = desk_of(0, "ask z 0 9 5", "ask far 20 60 2", "ask a 0 9 4")
        self.says(desk, ("instead oil 0 9 3", "z a"), ("instead oil 0 9 6", "z"), ("instead oil 0 9 11", "nothing"),
                  ("instead oil 5 9 6", "nothing"))

    def test_all_four_ask_for_nothing(self):
        desk = desk_of(2, "ask mow 3 40 5")
        before = all_said(desk)
        for word in ("later", "earlier", "fewer", "instead"):
            desk.say(f"{word} hay 10 20 4")
        self.assertEqual(all_said(desk), before)
        self.assertEqual(self.refused(desk, NoPiece, "state hay").found, "hay")

    def test_all_four_are_refused_as_an_asking(self):
        desk = desk_of(2, "ask mow 0 40 5", "work 2")
        for word in ("later", "earlier", "fewer", "instead"):
            self.bad(desk, 0, "first", f"{word} hay 201 20 4")
            self.bad(desk, 0, "last", f"{word} hay 10 200 4")
            self.bad(desk, 0, "length", f"{word} mow 0 0 13")
            self.bad(desk, 0, "double", f"{word} mow 0 0 1")
            self.assertEqual(self.refused(desk, Past, f"{word} hay 0 1 1").last, 1)
            self.assertEqual(self.refused(desk, Past, f"{word} hay 0 1 12").last, 1)

    def test_all_four_where_it_would_be_promised(self):
        desk = desk_of(2, "ask mow 3 40 5")
        for word in ("later", "earlier", "fewer", "instead"):
            self.refused(desk, NotRefused, f"{word} hay 10 21 4")


class BookTest(Said):
    """A desk beside a book to which the same is done."""

    def figures(self, chance):
        return [chance.choice([0, 1, 5, chance.randint(0, 60), chance.randint(0, 199)]) for _ in range(2)]

    def line(self, chance, book):
        first, more = self.figures(chance)
        first += book.now() // 3
        name = chance.choice(["mow", "hay", "oil", "saw", "new"])
        row = f"{name} {first} {max(0, first + more // 4 - 1)} {chance.randint(1, 9)}"
        return chance.choice([f"ask {row}", f"ask {row}", "work", f"work {more % 7}", "rest", "failed", "failed", "done",
                              "done", f"off {name}", f"longer {name} {more + 40}", *TELLING, f"state {name}",
                              f"need {first} {more}", f"later {row}", f"earlier {row}", f"fewer {row}",
                              f"instead {row}"])

    def due(self, book, line):
        """The answer that is due, by what the book and the others tell."""
        word, *things = line.split(" ")
        things = [int(thing) if thing.isdigit() else thing for thing in things]
        if word in ("later", "earlier", "fewer", "instead"):
            return self.due_hindsight(book, word, book.asked_row(*things))
        if word == "ask":
            paper = book.ask(*things)
            return "promised" if paper.word() == "kept" else " ".join(
                ["refused", *map(str, paper.stretch()), *paper.names()])
        if word == "work":
            return self.due_work(book, things)
        if word in ("rest", "off", "longer"):
            {"rest": book.rest, "off": book.call_off, "longer": book.longer}[word](*things)
            return "ok"
        if word == "need":
            if not is_stretch(tuple(things)):
                raise NoStretch(tuple(things))
            return f"{need(book.pieces(), tuple(things), book.failings_left())} {room(tuple(things))}"
        if word == "paper":
            crowd = borne_papers(book.pieces())[2]
            return "nothing" if crowd is None else " ".join([*map(str, crowd.stretch()), *crowd.names()])
        if word == "pieces":
            return show_pieces(book.pieces()).replace("\n", "; ") or "nothing"
        if word == "latest":
            return "; ".join(f"{name} {turn}" for name, turn in book.latest().items()) or "nothing"
        told = {"failed": book.failed, "done": book.done, "now": book.now, "left": book.failings_left,
                "bears": book.bears, "state": book.state}[word](*things)
        return "nothing" if told is None else str(told)

    def due_work(self, book, things):
        many = things[0] if things else 1
        told = []
        for _ in range(many):
            try:
                told.append(book.work() or "nothing")
            except SlackError:
                if not told:
                    raise
                break
        return " ".join(told) or "nothing"

    def due_hindsight(self, book, word, row):
        handed = (book.pieces(), book.failings_left(), row)
        if word == "fewer":
            return str(fewer(*handed))
        if word == "instead":
            return " ".join(name for name, _ in instead_of(*handed)) or "nothing"
        told = later_end(*handed) if word == "later" else earlier_start(*handed, book.now())
        return "never" if told is None else str(told[0])

    def answer(self, call, *handed):
        try:
            return call(*handed)
        except SlackError as error:
            return (type(error), vars(error))

    def test_many_lines(self):
        seen = set()
        for seed in range(30):
            chance = random.Random(seed)
            failings = chance.randint(0, 4)
            desk = Desk(failings)
            book = Book(failings)
            for _ in range(200):
                line = self.line(chance, book)
                said = self.answer(desk.say, line)
                self.assertEqual(said, self.answer(self.due, book, line), (seed, line))
                seen.add((line.split(" ")[0], said[0] if isinstance(said, tuple) else said.isdigit()))
        for due in (("ask", False), ("ask", BadPieces), ("ask", Past), ("work", False), ("work", Waits),
                    ("rest", False), ("rest", NoRest), ("failed", False), ("failed", NoWord), ("failed", NoFailing),
                    ("done", False), ("done", NoWord), ("off", False), ("off", NoPiece), ("longer", False),
                    ("longer", NoPiece), ("longer", BadPieces), ("bears", True), ("bears", False), ("need", False),
                    ("need", NoStretch), ("later", True), ("later", NotRefused), ("later", Past), ("earlier", True),
                    ("earlier", False), ("fewer", True), ("fewer", False), ("instead", False), ("instead", NotRefused)):
            self.assertIn(due, seen)

    def test_the_same_lines_have_equal_answers(self):
        lines = ("ask mow 3 40 5", "ask hay 0 9 9", "work 5", "latest", "bears", "later hay 5 9 4", "paper")
        one = Desk(2)
        two = Desk(2)
        self.assertEqual([one.say(line) for line in lines], [two.say(line) for line in lines])


if __name__ == "__main__":
    unittest.main()
