"""Points 17 and 18, and failslack/texts.py under the interface."""

import copy
import itertools
import unittest

from failslack.errors import BadText
from failslack.pieces import Pieces
from failslack.texts import read_pieces, show_pieces
from tests.things import all_things, refusal


def lines_of(many):
    return [f"p{at} {at} {at + 20} {at % 12 + 1}" for at in range(many)]


class ShowTest(unittest.TestCase):
    def shows(self, rows, text):
        told = show_pieces(Pieces(rows))
        self.assertEqual(told, text)
        self.assertIs(type(told), str)

    def test_the_two_that_are_named(self):
        self.shows([("mow", 3, 40, 5)], "mow 3 40 5")
        self.shows([("mow", 3, 40, 5, 2)], "mow 3 40 5 2")

    def test_what_is_left_is_told_only_where_it_is_not_the_length(self):
        for length in range(1, 13):
            self.shows([("mow", 3, 40, length, length)], f"mow 3 40 {length}")
            for left in range(length):
                self.shows([("mow", 3, 40, length, left)], f"mow 3 40 {length} {left}")

    def test_no_pieces(self):
        self.shows([], "")

    def test_several_pieces_in_their_order(self):
        self.shows([("mow", 3, 40, 5, 0), ("a", 0, 0, 1), ("z9", 200, 199, 12, 11)],
                   "mow 3 40 5 0\na 0 0 1\nz9 200 199 12 11")
        self.shows([("z", 1, 0, 2), ("a", 9, 8, 2)], "z 1 0 2\na 9 8 2")

    def test_thirty_pieces(self):
        rows = [(f"p{at}", at, at + 20, at % 12 + 1) for at in range(30)]
        self.shows(rows, "\n".join(lines_of(30)))

    def test_pieces_stay_as_they_were_and_the_answer_is_equal_again(self):
        pieces = Pieces([("mow", 3, 40, 5, 2), ("a", 0, 0, 1)])
        before = pieces.told()
        self.assertEqual(show_pieces(pieces), show_pieces(pieces))
        self.assertEqual(pieces.told(), before)


class Checked(unittest.TestCase):
    def reads(self, text, *rows):
        pieces = read_pieces(text)
        self.assertIs(type(pieces), Pieces)
        self.assertEqual(pieces.told(), tuple(rows))

    def refused(self, text, at, why):
        error = refusal(self, BadText, read_pieces, text)
        self.assertEqual((error.at, error.why), (at, why), text)
        self.assertIs(type(error.at), int)

    def refused_line(self, line, why="form"):
        """The line is refused alone and at each place among others."""
        self.refused(line, 0, why)
        self.refused(f"x 0 9 1\n{line}", 1, why)
        self.refused(f"{line}\nx 0 9 1", 0, why)
        self.refused(f"x 0 9 1\ny 0 9 1 0\n{line}\nz 0 9 1", 2, why)


class ReadTest(Checked):
    def test_rows_with_and_without_what_is_left(self):
        self.reads("mow 3 40 5", ("mow", 3, 40, 5, 5))
        self.reads("mow 3 40 5 2", ("mow", 3, 40, 5, 2))
        self.reads("mow 3 40 5 0", ("mow", 3, 40, 5, 0))
        self.reads("mow 3 40 5 5", ("mow", 3, 40, 5, 5))
        self.reads("mow 3 40 5\na 0 0 1 0\nz9 200 199 12",
                   ("mow", 3, 40, 5, 5), ("a", 0, 0, 1, 0), ("z9", 200, 199, 12, 12))

    def test_the_text_without_signs(self):
        self.reads("")

    def test_numbers_are_whole_numbers(self):
        for row in read_pieces("mow 3 40 5 2").told():
            self.assertEqual([type(thing) for thing in row], [str, int, int, int, int])

    def test_what_is_written_is_read_as_the_same(self):
        for first, last, length in itertools.product((0, 1, 10, 100, 200), (0, 1, 9, 99, 199), range(1, 13)):
            if last < first - 1:
                continue
            rows = [(f"p{left}", first, last, length, left) for left in range(length + 1)]
            self.reads(show_pieces(Pieces(rows)), *rows)
        full = Pieces([(f"p{at}", at, at + 20, at % 12 + 1, at % 2) for at in range(30)])
        self.reads(show_pieces(full), *full.told())
        self.reads(show_pieces(Pieces([])))

    def test_what_is_no_text(self):
        for thing in all_things():
            if not isinstance(thing, str):
                before = copy.deepcopy(thing)
                self.refused(thing, 0, "form")
                self.assertEqual(thing, before)

    def test_any_text(self):
        for thing in all_things():
            if isinstance(thing, str) and thing not in ("", "mow 3 40 5"):
                self.refused(thing, 0, "form")

    def test_how_many_words_a_row_has(self):
        for many in (1, 2, 3, 6, 7):
            self.refused_line(" ".join("mow 3 40 5 5 5 5".split(" ")[:many]))

    def test_blanks(self):
        for line in ("mow 3 40 5", "mow 3 40 5 2"):
            for wrong in (f" {line}", f"{line} ", f" {line} ", f"  {line}", f"{line}  ", " ", "  ", "   ", "    "):
                self.refused_line(wrong)
            for at, sign in enumerate(line):
                if sign == " ":
                    self.refused_line(line[:at] + " " + line[at:])
                    self.refused_line(line[:at] + "_" + line[at:])
        for line in ("mow3 40 5", "mow 340 5", "mow 3 405"):
            self.refused_line(line)

    def test_line_feeds(self):
        self.refused("\n", 0, "form")
        self.refused("\n\n", 0, "form")
        self.refused("\nmow 3 40 5", 0, "form")
        self.refused("mow 3 40 5\n", 1, "form")
        self.refused("mow 3 40 5\n\nhay 0 9 1", 1, "form")
        self.refused("mow 3 40 5\nhay 0 9 1\n\n", 2, "form")
        self.refused("mow 3 40 5 \n hay 0 9 1", 0, "form")
        self.refused("mow 3 40 5\n hay 0 9 1", 1, "form")
        self.refused("mow 3 40\n5", 0, "form")

    def test_signs_that_part_nothing(self):
        for sign in "\t\r\v\f;,\u2028\x1e":
            self.refused(f"mow{sign}3 40 5", 0, "form")
            self.refused(f"mow 3 40 5{sign}", 0, "form")
            self.refused(f"mow 3 40 5{sign}hay 0 9 1", 0, "form")

    def test_words_that_are_no_names_or_no_figures(self):
        for name in ("", "Mow", "1mow", "m_w", "abcdefghi", "3", "-"):
            self.refused_line(f"{name} 3 40 5")
            self.refused_line(f"{name} 3 40 5 2")
        for wrong in ("", "a", "-1", "+1", "00", "07", "10000", "1.0", "1_0", "x3"):
            for line in ("mow {} 40 5", "mow 3 {} 5", "mow 3 40 {}", "mow {} 40 5 2", "mow 3 {} 5 2", "mow 3 40 {} 2",
                         "mow 3 40 5 {}"):
                self.refused_line(line.format(wrong))


class ReadPiecesTest(Checked):
    """What has the form, but is no pieces."""

    def test_each_word(self):
        for line, why in (
            ("mow 201 199 5", "first"), ("mow 9999 199 5", "first"), ("mow 3 200 5", "last"), ("mow 3 1 5", "last"),
            ("mow 3 9999 5", "last"), ("mow 3 40 0", "length"), ("mow 3 40 13", "length"), ("mow 3 40 9999", "length"),
            ("mow 3 40 5 6", "left"), ("mow 3 40 12 13", "left"), ("mow 3 40 0 0", "length"),
            ("mow 201 9999 13 14", "first"), ("mow 3 200 13 14", "last"), ("mow 3 40 13 14", "length"),
        ):
            self.refused_line(line, why)

    def test_two_pieces_of_one_name(self):
        self.refused("mow 3 40 5\nmow 3 40 5", 1, "double")
        self.refused("mow 3 40 5\nhay 3 40 5\nmow 201 200 13 14", 2, "double")

    def test_the_first_wrong_row_is_told(self):
        self.refused("a 0 9 1\nmow 3 200 5\nhay 201 199 5", 1, "last")
        self.refused("a 0 9 1\nhay 201 199 5\nmow 3 200 5", 1, "first")

    def test_a_row_without_a_form_goes_ahead_of_what_is_wrong_with_pieces(self):
        self.refused("mow 201 199 5\nhay 0 9 1 ", 1, "form")
        self.refused("mow 3 40 5\nmow 3 40 5\n", 2, "form")
        self.refused("mow 3 40 13\nhay 0 9 1\nx 0 9 1\ny 00 9 1\nz", 3, "form")

    def test_thirty_rows_and_more(self):
        self.assertEqual(len(read_pieces("\n".join(lines_of(30))).told()), 30)
        for many in (31, 32, 45):
            self.refused("\n".join(lines_of(many)), 30, "many")
        wrong = lines_of(31)
        wrong[2] = "mow 201 199 5"
        self.refused("\n".join(wrong), 30, "many")

    def test_a_row_without_a_form_behind_the_thirtieth(self):
        self.refused("\n".join(lines_of(30)) + "\n", 30, "form")
        self.refused("\n".join(lines_of(31)) + "\n", 31, "form")
        self.refused("\n".join(lines_of(40) + ["mow 3 40"] + lines_of(3)), 40, "form")
        self.refused("\n".join(["mow 201 199 5"] + lines_of(35) + ["Mow 3 40 5"]), 36, "form")
        self.refused("\n" * 999, 0, "form")
        self.refused("a 0 0 1" + "\n" * 993, 1, "form")

    def test_the_same_question_has_an_equal_answer(self):
        for text in ("", "mow 3 40 5", "mow 3 40 5 2\nhay 0 9 1"):
            self.assertEqual(read_pieces(text).told(), read_pieces(text).told())
            self.assertEqual(show_pieces(read_pieces(text)), text)


if __name__ == "__main__":
    unittest.main()
