"""Points 3, 12, 13 and 14, and failslack/pieces.py under the interface."""

import copy
import itertools
import unittest

from failslack.errors import BadPieces, NoPiece
from failslack.pieces import Pieces
from failslack.words import is_name
from tests.things import all_things, refusal

MOW = ("mow", 3, 40, 5)
MOW_WHOLE = ("mow", 3, 40, 5, 5)
BIG = 10 ** 29
NO_NUMBERS = (True, False, None, "", "3", "mow", [], [3], (), (3,), {}, {3: 3}, BIG, -BIG)


def rows_of(many):
    return [(f"p{at}", at, at + 20, at % 12 + 1) for at in range(many)]


class Checked(unittest.TestCase):
    def refused(self, rows, at, why):
        error = refusal(self, BadPieces, Pieces, rows)
        self.assertEqual((error.at, error.why), (at, why), rows)
        self.assertIsNot(type(error.at), bool)

    def refused_row(self, row, why):
        """The row is refused alone, and behind others, in a list and in a tuple."""
        self.refused([row], 0, why)
        self.refused((row,), 0, why)
        self.refused([("x", 0, 9, 1), ("y", 0, 9, 1, 0), row], 2, why)

    def taken(self, row):
        whole = row if len(row) == 5 else row + (row[3],)
        self.assertEqual(Pieces([row]).told(), (whole,))
        self.assertEqual(Pieces((("x", 0, 9, 1), row)).told(), (("x", 0, 9, 1, 1), whole))


class RowsTest(Checked):
    def test_what_is_no_list_and_no_tuple(self):
        for thing in all_things():
            if not isinstance(thing, (list, tuple)):
                self.refused(thing, None, "form")
        self.refused({0: MOW}, None, "form")
        self.refused("mow 3 40 5", None, "form")

    def test_no_rows(self):
        self.assertEqual(Pieces([]).told(), ())
        self.assertEqual(Pieces(()).told(), ())

    def test_thirty_rows_and_more(self):
        self.assertEqual(len(Pieces(rows_of(30)).told()), 30)
        self.assertEqual(len(Pieces(tuple(rows_of(30))).told()), 30)
        for many in (31, 32, 60):
            self.refused(rows_of(many), 30, "many")
            self.refused(tuple(rows_of(many)), 30, "many")
        self.refused([0] * 3000, 30, "many")

    def test_too_many_rows_go_ahead_of_what_is_wrong_with_one(self):
        for wrong in (None, [], ("mow",), ("Mow", 3, 40, 5), ("p1", -1, 40, 5)):
            self.refused([wrong] + rows_of(30), 30, "many")
            self.refused(rows_of(30) + [wrong], 30, "many")

    def test_the_first_wrong_row_is_told(self):
        for at in range(30):
            rows = rows_of(30)
            rows[at] = ("Mow", 3, 40, 5)
            rows[29] = None if at < 29 else rows[29]
            self.refused(rows, at, "name")
        self.refused([MOW, ("hay", 3, 40, 13), None], 1, "length")
        self.refused([MOW, None, ("hay", 3, 40, 13)], 1, "form")

    def test_any_thing_as_the_only_row(self):
        good = (MOW, MOW_WHOLE)
        for thing in all_things():
            if isinstance(thing, tuple) and thing in good:
                self.taken(thing)
            elif isinstance(thing, tuple) and len(thing) in (4, 5):
                self.refused_row(thing, "name")
            else:
                self.refused_row(thing, "form")

    def test_a_list_in_the_place_of_a_row(self):
        self.refused_row(list(MOW), "form")
        self.refused_row(list(MOW_WHOLE), "form")
        self.refused_row(["mow", 3, 40, 5, 6], "form")

    def test_how_many_things_a_row_has(self):
        for many in range(8):
            row = ("mow", 3, 40, 5, 5, 5, 5, 5)[:many]
            if many in (4, 5):
                self.taken(row)
            else:
                self.refused_row(row, "form")


class RowTest(Checked):
    def test_names(self):
        for name in ("a", "z", "a1", "abcdefgh", "z9999999"):
            self.taken((name, 3, 40, 5))
            self.taken((name, 3, 40, 5, 2))
        for name in [thing for thing in all_things() if not is_name(thing)]:
            self.refused_row((name, 3, 40, 5), "name")
            self.refused_row((name, 3, 40, 5, 2), "name")

    def test_two_pieces_of_one_name(self):
        self.refused([MOW, MOW], 1, "double")
        self.refused((MOW, ("hay", 0, 1, 1), ("mow", 50, 60, 1, 0)), 2, "double")
        self.refused([("x", 0, 1, 1), ("y", 0, 1, 1), ("y", 0, 1, 1), ("x", 0, 1, 1)], 2, "double")
        self.refused(rows_of(29) + [("p0", 0, 9, 1)], 29, "double")

    def test_a_name_is_double_only_by_rows_ahead(self):
        self.refused([("mow", 3, 40, 13), MOW], 0, "length")
        self.refused([("mow", 3, 40, 5), ("mow", -1, 40, 5)], 1, "double")

    def test_first_turns(self):
        for first in (0, 1, 3, 39, 40):
            self.taken(("mow", first, 40, 5))
            self.taken(("mow", first, 40, 5, 2))
        for first in (0, 1, 198, 199, 200):
            self.taken(("mow", first, 199, 5))
        for first in (-1, -2, 201, 202) + NO_NUMBERS:
            self.refused_row(("mow", first, 199, 5), "first")
            self.refused_row(("mow", first, 199, 5, 2), "first")

    def test_last_turns(self):
        for last in (2, 3, 4, 198, 199):
            self.taken(("mow", 3, last, 5))
            self.taken(("mow", 3, last, 5, 2))
        for last in (1, 0, -1, 200, 201) + NO_NUMBERS:
            self.refused_row(("mow", 3, last, 5), "last")
            self.refused_row(("mow", 3, last, 5, 2), "last")

    def test_last_turns_for_each_first_turn(self):
        for first in range(201):
            for last in (first - 2, first - 1, first, first + 1):
                if max(0, first - 1) <= last <= 199:
                    self.taken(("mow", first, last, 5))
                else:
                    self.refused_row(("mow", first, last, 5), "last")

    def test_the_turn_ahead_of_nought_is_no_last_turn(self):
        self.refused_row(("mow", 0, -1, 5), "last")
        self.taken(("mow", 0, 0, 5))
        self.taken(("mow", 1, 0, 5))
        self.taken(("mow", 200, 199, 5))
        self.refused_row(("mow", 200, 200, 5), "last")
        self.refused_row(("mow", 200, 198, 5), "last")

    def test_lengths(self):
        for length in range(1, 13):
            self.taken(("mow", 3, 40, length))
            self.taken(("mow", 3, 40, length, 1))
        for length in (0, -1, 13, 14) + NO_NUMBERS:
            self.refused_row(("mow", 3, 40, length), "length")
            self.refused_row(("mow", 3, 40, length, 0), "length")

    def test_the_length_need_not_fit_into_the_window(self):
        self.taken(("mow", 3, 3, 12))
        self.taken(("mow", 3, 2, 12, 12))

    def test_what_is_left(self):
        for length in range(1, 13):
            for left in range(length + 1):
                self.taken(("mow", 3, 40, length, left))
            for left in (-1, length + 1) + NO_NUMBERS:
                self.refused_row(("mow", 3, 40, length, left), "left")

    def test_any_thing_in_the_place_of_a_number(self):
        words = ("first", "last", "length", "left")
        bounds = ((0, 41), (2, 199), (2, 12), (0, 5))
        for at, (why, (low, high)) in enumerate(zip(words, bounds)):
            for thing in all_things():
                row = ("mow", 3, 40, 5, 2)[:at + 1] + (thing,) + (3, 40, 5, 2)[at + 1:]
                if type(thing) is int and low <= thing <= high:
                    self.taken(row)
                elif why == "first" and type(thing) is int and 41 < thing <= 200:
                    self.refused_row(row, "last")
                elif why == "length" and thing == 1 and thing is not True:
                    self.refused_row(row, "left")
                else:
                    self.refused_row(row, why)

    def test_the_first_word_that_is_due_is_told(self):
        words = ("double", "first", "last", "length", "left")
        good = ("hay", 3, 40, 5, 5)
        for wrongs in itertools.product((False, True), repeat=5):
            for wrong in ("mow", None, True, "x", BIG):
                row = tuple([(wrong if at else "mow") if bad else good[at] for at, bad in enumerate(wrongs)])
                self.check_first_word(row, [word for word, bad in zip(words, wrongs) if bad])

    def check_first_word(self, row, due):
        if not due:
            self.assertEqual(Pieces([MOW, row]).names(), ["mow", "hay"])
            return
        self.refused([MOW, row], 1, due[0])
        self.refused([MOW, ("Hay",) + row[1:]], 1, "name")
        self.refused([MOW, list(row)], 1, "form")
        self.refused([MOW, row + (0,)], 1, "form")
        if due != ["left"]:
            self.refused([MOW, row[:4]], 1, due[0])


class AskedTest(unittest.TestCase):
    def setUp(self):
        self.pieces = Pieces([MOW, ("hay", 0, 0, 1, 0), ("a1", 200, 199, 12)])

    def test_told_is_in_order_and_of_five_things(self):
        due = (MOW_WHOLE, ("hay", 0, 0, 1, 0), ("a1", 200, 199, 12, 12))
        told = self.pieces.told()
        self.assertEqual(told, due)
        self.assertIs(type(told), tuple)
        self.assertEqual([type(row) for row in told], [tuple] * 3)

    def test_names_are_in_order(self):
        self.assertEqual(self.pieces.names(), ["mow", "hay", "a1"])
        self.assertEqual(Pieces([]).names(), [])
        self.assertEqual(Pieces([MOW]).names(), ["mow"])
        self.assertEqual(Pieces(rows_of(30)).names(), [f"p{at}" for at in range(30)])
        self.assertEqual(Pieces(rows_of(30)[::-1]).names(), [f"p{at}" for at in range(29, -1, -1)])

    def test_thirty_pieces(self):
        pieces = Pieces(rows_of(30))
        for at, row in enumerate(rows_of(30)):
            self.assertIs(pieces.has(row[0]), True)
            self.assertEqual(pieces.row(row[0]), row + (row[3],))
            self.assertEqual(pieces.told()[at], row + (row[3],))
        self.assertIs(pieces.has("p30"), False)

    def test_has_of_any_thing(self):
        for thing in all_things():
            self.assertIs(self.pieces.has(thing), thing in ["mow", "a1"])
            self.assertIs(Pieces([]).has(thing), False)
        self.assertIs(self.pieces.has("hay"), True)
        for thing in ("ha", "hayy", "Hay", "ay", ("hay",), ["hay"], {"hay": 1}, ("hay", 0, 0, 1, 0), 1):
            self.assertIs(self.pieces.has(thing), False, thing)

    def test_row_of_a_name(self):
        self.assertEqual(self.pieces.row("mow"), MOW_WHOLE)
        self.assertEqual(self.pieces.row("hay"), ("hay", 0, 0, 1, 0))
        self.assertEqual(self.pieces.row("a1"), ("a1", 200, 199, 12, 12))
        self.assertIs(type(self.pieces.row("a1")), tuple)

    def test_row_of_any_other_thing_is_refused(self):
        for thing in [thing for thing in all_things() if thing not in ["mow", "a1"]]:
            self.assertIs(refusal(self, NoPiece, self.pieces.row, thing).found, thing)
        for thing in all_things():
            self.assertIs(refusal(self, NoPiece, Pieces([]).row, thing).found, thing)

    def test_told_numbers_are_whole_numbers(self):
        for row in self.pieces.told():
            self.assertEqual([type(thing) for thing in row], [str, int, int, int, int])

    def test_what_is_handed_in_is_not_changed_and_is_kept_as_a_copy(self):
        rows = [MOW, ("hay", 0, 9, 2, 1)]
        before = copy.deepcopy(rows)
        pieces = Pieces(rows)
        self.assertEqual(rows, before)
        rows.append(("new", 0, 1, 1))
        rows[0] = None
        self.assertEqual(pieces.told(), (MOW_WHOLE, ("hay", 0, 9, 2, 1)))
        self.assertEqual(pieces.names(), ["mow", "hay"])
        self.assertIs(pieces.has("new"), False)
        rows.clear()
        self.assertEqual(pieces.row("mow"), MOW_WHOLE)

    def test_lists_that_are_told_are_new_ones(self):
        told = self.pieces.names()
        self.assertIsNot(told, self.pieces.names())
        told.append("new")
        told[0] = "other"
        self.assertEqual(self.pieces.names(), ["mow", "hay", "a1"])
        self.assertIs(self.pieces.has("mow"), True)
        self.assertIs(self.pieces.has("new"), False)
        self.assertEqual(self.pieces.row("mow"), MOW_WHOLE)

    def test_what_is_refused_is_not_changed(self):
        for thing in all_things():
            before = copy.deepcopy(thing)
            for call in (self.pieces.has, lambda handed: Pieces([handed])):
                try:
                    call(thing)
                except BadPieces:
                    pass
                self.assertEqual(thing, before)

    def test_the_same_question_has_an_equal_answer(self):
        other = Pieces([MOW, ("hay", 0, 0, 1, 0), ("a1", 200, 199, 12)])
        for pieces in (self.pieces, self.pieces, other):
            self.assertEqual(pieces.told(), self.pieces.told())
            self.assertEqual(pieces.names(), self.pieces.names())
            self.assertEqual(pieces.row("hay"), self.pieces.row("hay"))

    def test_each_method_of_the_interface_stands_in_the_class(self):
        for name in ("told", "names", "has", "row", "with_row", "without", "with_last", "with_left", "since"):
            self.assertIn(name, vars(Pieces))


if __name__ == "__main__":
    unittest.main()
