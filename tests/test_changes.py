"""Points 15 and 16: pieces that are as others are, but for one thing."""

import copy
import unittest

from failslack.errors import BadPieces, NoPiece, NoTurn
from failslack.pieces import Pieces
from tests.things import all_things, refusal

ROWS = (("mow", 3, 40, 5, 5), ("hay", 10, 20, 4, 1), ("oil", 0, 199, 12, 0))
NO_NUMBERS = (True, False, None, "", "3", "mow", [], [3], (), (3,), {}, {3: 3}, 10 ** 29, -(10 ** 29))


def rows_of(many):
    return [(f"p{at}", at, at + 20, at % 12 + 1, at % 2) for at in range(many)]


class Checked(unittest.TestCase):
    def setUp(self):
        self.pieces = Pieces(ROWS)

    def tearDown(self):
        self.assertEqual(self.pieces.told(), ROWS)
        self.assertEqual(self.pieces.names(), ["mow", "hay", "oil"])

    def refused(self, at, why, call, *handed):
        error = refusal(self, BadPieces, call, *handed)
        self.assertEqual((error.at, error.why), (at, why), handed)

    def tells(self, pieces, *rows):
        self.assertIs(type(pieces), Pieces)
        self.assertEqual(pieces.told(), tuple(rows))
        self.assertEqual(pieces.names(), [row[0] for row in rows])


class WithRowTest(Checked):
    def test_a_row_stands_behind_all_others(self):
        self.tells(self.pieces.with_row(("a", 1, 2, 3)), *ROWS, ("a", 1, 2, 3, 3))
        self.tells(self.pieces.with_row(("a", 1, 2, 3, 0)), *ROWS, ("a", 1, 2, 3, 0))
        self.tells(self.pieces.with_row(("a", 200, 199, 12)), *ROWS, ("a", 200, 199, 12, 12))
        self.tells(Pieces([]).with_row(("a", 1, 2, 3)), ("a", 1, 2, 3, 3))

    def test_rows_are_refused_as_pieces_are(self):
        for row, why in (
            (["a", 1, 2, 3], "form"), (("a", 1, 2), "form"), (("a", 1, 2, 3, 3, 3), "form"), (("A", 1, 2, 3), "name"),
            (("hay", 1, 2, 3), "double"), (("a", 201, 2, 3), "first"), (("a", 1, 200, 3), "last"),
            (("a", 3, 1, 3), "last"), (("a", 1, 2, 13), "length"), (("a", 1, 2, 3, 4), "left"),
            (("a", 1, 2, 3, None), "left"), (("hay", -1, -1, 0, -1), "double"),
        ):
            self.refused(3, why, self.pieces.with_row, row)

    def test_any_thing_as_a_row(self):
        for thing in all_things():
            try:
                due = Pieces([*ROWS, thing])
            except BadPieces as error:
                self.assertEqual(error.at, 3)
                self.refused(3, error.why, self.pieces.with_row, thing)
            else:
                self.tells(self.pieces.with_row(thing), *due.told())

    def test_thirty_pieces_and_one_more(self):
        full = Pieces(rows_of(29)).with_row(("a", 1, 2, 3))
        self.assertEqual(len(full.told()), 30)
        for thing in [("b", 1, 2, 3), ("a", 1, 2, 3), *all_things()]:
            self.refused(30, "many", full.with_row, thing)
        self.assertEqual(full.told(), (*rows_of(29), ("a", 1, 2, 3, 3)))


class WithoutTest(Checked):
    def test_each_piece_goes_and_the_others_stay(self):
        self.tells(self.pieces.without("mow"), ROWS[1], ROWS[2])
        self.tells(self.pieces.without("hay"), ROWS[0], ROWS[2])
        self.tells(self.pieces.without("oil"), ROWS[0], ROWS[1])

    def test_down_to_no_pieces(self):
        none = self.pieces.without("hay").without("mow").without("oil")
        self.tells(none)
        self.assertIs(none.has("mow"), False)
        self.assertEqual(refusal(self, NoPiece, none.without, "mow").found, "mow")

    def test_any_other_thing_is_refused(self):
        for thing in [thing for thing in all_things() if thing != "mow"]:
            self.assertIs(refusal(self, NoPiece, self.pieces.without, thing).found, thing)
            self.assertIs(refusal(self, NoPiece, Pieces([]).without, thing).found, thing)

    def test_a_name_that_went_may_stand_again(self):
        again = self.pieces.without("mow").with_row(("mow", 0, 0, 1))
        self.tells(again, ROWS[1], ROWS[2], ("mow", 0, 0, 1, 1))


class WithLastTest(Checked):
    def test_each_piece_at_its_own_place(self):
        self.tells(self.pieces.with_last("mow", 50), ("mow", 3, 50, 5, 5), ROWS[1], ROWS[2])
        self.tells(self.pieces.with_last("hay", 199), ROWS[0], ("hay", 10, 199, 4, 1), ROWS[2])
        self.tells(self.pieces.with_last("oil", 0), ROWS[0], ROWS[1], ("oil", 0, 0, 12, 0))

    def test_the_same_last_turn_and_an_empty_window(self):
        self.tells(self.pieces.with_last("mow", 40), *ROWS)
        self.tells(self.pieces.with_last("hay", 9), ROWS[0], ("hay", 10, 9, 4, 1), ROWS[2])
        empty = Pieces([("mow", 200, 199, 5)])
        self.tells(empty.with_last("mow", 199), ("mow", 200, 199, 5, 5))

    def test_what_is_no_last_turn_is_refused(self):
        for last in (1, 0, -1, 200, *NO_NUMBERS):
            self.refused(0, "last", self.pieces.with_last, "mow", last)
        for last in (8, 200, *NO_NUMBERS):
            self.refused(1, "last", self.pieces.with_last, "hay", last)
        for last in (-1, 200, *NO_NUMBERS):
            self.refused(2, "last", self.pieces.with_last, "oil", last)

    def test_any_thing_as_a_last_turn(self):
        for thing in all_things():
            if type(thing) is int and 9 <= thing <= 199:
                self.tells(self.pieces.with_last("hay", thing), ROWS[0], ("hay", 10, thing, 4, 1), ROWS[2])
            else:
                self.refused(1, "last", self.pieces.with_last, "hay", thing)

    def test_what_is_no_name_goes_ahead_of_the_last_turn(self):
        for thing in [thing for thing in all_things() if thing != "mow"]:
            for last in (50, 200, None):
                self.assertIs(refusal(self, NoPiece, self.pieces.with_last, thing, last).found, thing)


class WithLeftTest(Checked):
    def test_each_piece_at_its_own_place(self):
        self.tells(self.pieces.with_left("mow", 0), ("mow", 3, 40, 5, 0), ROWS[1], ROWS[2])
        self.tells(self.pieces.with_left("hay", 4), ROWS[0], ("hay", 10, 20, 4, 4), ROWS[2])
        self.tells(self.pieces.with_left("oil", 12), ROWS[0], ROWS[1], ("oil", 0, 199, 12, 12))

    def test_the_same_left(self):
        self.tells(self.pieces.with_left("hay", 1), *ROWS)

    def test_what_is_no_left_is_refused(self):
        for at, (name, length) in enumerate((("mow", 5), ("hay", 4), ("oil", 12))):
            for left in (-1, length + 1, *NO_NUMBERS):
                self.refused(at, "left", self.pieces.with_left, name, left)

    def test_any_thing_as_left(self):
        for thing in all_things():
            if type(thing) is int and 0 <= thing <= 12:
                self.tells(self.pieces.with_left("oil", thing), ROWS[0], ROWS[1], ("oil", 0, 199, 12, thing))
            else:
                self.refused(2, "left", self.pieces.with_left, "oil", thing)

    def test_what_is_no_name_goes_ahead_of_what_is_left(self):
        for thing in [thing for thing in all_things() if thing != "mow"]:
            for left in (1, 13, None):
                self.assertIs(refusal(self, NoPiece, self.pieces.with_left, thing, left).found, thing)


class SinceTest(Checked):
    def firsts(self, now):
        return [row[1] for row in self.pieces.since(now).told()]

    def test_the_turns_that_are_named(self):
        self.assertEqual(self.firsts(0), [3, 10, 0])
        self.assertEqual(self.firsts(199), [41, 21, 199])
        self.assertEqual(self.firsts(200), [41, 21, 200])

    def test_around_a_window(self):
        for now, first in ((0, 10), (9, 10), (10, 10), (11, 11), (19, 19), (20, 20), (21, 21), (22, 21), (200, 21)):
            self.assertEqual(self.firsts(now)[1], first, now)

    def test_all_turns_of_all_pieces(self):
        for now in range(201):
            due = [(name, min(max(first, now), last + 1), last, length, left)
                   for name, first, last, length, left in ROWS]
            self.tells(self.pieces.since(now), *due)

    def test_an_empty_window_stays(self):
        empty = Pieces([("mow", 10, 9, 5, 2), ("hay", 200, 199, 1), ("oil", 1, 0, 3)])
        for now in (0, 1, 8, 9, 10, 11, 199, 200):
            self.tells(empty.since(now), *empty.told())

    def test_the_last_turn_of_all(self):
        late = Pieces([("mow", 199, 199, 1), ("oil", 0, 0, 3)])
        self.tells(late.since(0), *late.told())
        self.tells(late.since(1), ("mow", 199, 199, 1, 1), ("oil", 1, 0, 3, 3))
        self.tells(late.since(200), ("mow", 200, 199, 1, 1), ("oil", 1, 0, 3, 3))

    def test_no_pieces(self):
        for now in (0, 199, 200):
            self.tells(Pieces([]).since(now))

    def test_since_a_later_turn_from_there(self):
        for now in (0, 5, 15, 30, 200):
            self.assertEqual(self.pieces.since(5).since(now).told(), self.pieces.since(max(5, now)).told())

    def test_what_is_no_turn_is_refused(self):
        for now in (-1, 201, 202, *NO_NUMBERS):
            self.assertIs(refusal(self, NoTurn, self.pieces.since, now).found, now)
            self.assertIs(refusal(self, NoTurn, Pieces([]).since, now).found, now)

    def test_any_thing_as_a_turn(self):
        for thing in all_things():
            if type(thing) is int and 0 <= thing <= 200:
                self.assertEqual(len(self.firsts(thing)), 3)
            else:
                self.assertIs(refusal(self, NoTurn, self.pieces.since, thing).found, thing)


class ChangelessTest(Checked):
    def test_changes_of_changes_leave_those_they_were_made_of(self):
        one = self.pieces.with_last("mow", 60)
        two = one.with_left("mow", 2)
        three = two.with_row(("a", 1, 2, 3)).without("hay").since(30)
        self.tells(one, ("mow", 3, 60, 5, 5), ROWS[1], ROWS[2])
        self.tells(two, ("mow", 3, 60, 5, 2), ROWS[1], ROWS[2])
        self.tells(three, ("mow", 30, 60, 5, 2), ("oil", 30, 199, 12, 0), ("a", 3, 2, 3, 3))

    def test_what_is_handed_in_is_not_changed(self):
        for thing in all_things():
            before = copy.deepcopy(thing)
            refusal(self, NoPiece, Pieces([]).without, thing)
            refusal(self, NoPiece, Pieces([]).with_last, thing, thing)
            refusal(self, NoPiece, Pieces([]).with_left, thing, thing)
            if not isinstance(thing, tuple):
                refusal(self, BadPieces, self.pieces.with_row, thing)
            self.assertEqual(thing, before)

    def test_the_same_question_has_an_equal_answer(self):
        for call, handed in (
            (Pieces.with_row, (("a", 1, 2, 3),)), (Pieces.without, ("hay",)), (Pieces.with_last, ("hay", 30)),
            (Pieces.with_left, ("hay", 3)), (Pieces.since, (15,)),
        ):
            due = call(self.pieces, *handed).told()
            self.assertEqual(call(self.pieces, *handed).told(), due)
            self.assertEqual(call(Pieces(list(ROWS)), *handed).told(), due)


if __name__ == "__main__":
    unittest.main()
