"""Point 34: whether rows are an order of work that does all that counts want."""

import copy
import unittest

from failslack.errors import NoCounts
from failslack.orders import does
from failslack.pieces import Pieces
from failslack.runs import is_counts, run
from tests.things import all_counts, all_things, refusal, small_pieces, thirty_pieces, wide_pieces

PIECES = Pieces([("a", 2, 9, 2), ("b", 3, 8, 3, 1), ("c", 0, 4, 2, 0), ("d", 6, 5, 1, 0)])
COUNTS = {"a": 1, "c": 1}
ROWS = [(0, "c"), (1, "c"), (2, "a"), (3, "b"), (4, "a"), (6, "a"), (9, "a")]


class DoesTest(unittest.TestCase):
    def tells(self, due, rows, counts=COUNTS, pieces=PIECES):
        before = copy.deepcopy((rows, counts))
        self.assertIs(does(pieces, counts, rows), due, rows)
        self.assertEqual((rows, counts), before)

    def test_an_order_of_somebody_else(self):
        self.tells(True, ROWS)
        self.tells(True, [(0, "c"), (3, "c"), (4, "a"), (5, "a"), (6, "a"), (7, "a"), (8, "b")])

    def test_the_rows_of_a_run(self):
        self.tells(True, run(PIECES, COUNTS).rows())
        self.tells(True, run(PIECES, {}).rows(), {})
        self.tells(False, run(PIECES, {}).rows())
        self.tells(False, run(PIECES, {"a": 9}).rows(), {"a": 9})

    def test_a_row_left_out(self):
        for at in range(len(ROWS)):
            self.tells(False, ROWS[:at] + ROWS[at + 1:])

    def test_a_row_twice(self):
        for at in range(len(ROWS)):
            self.tells(False, ROWS[:at] + [ROWS[at]] + ROWS[at:])
            self.tells(False, ROWS + [ROWS[at]])

    def test_a_turn_twice_with_another_piece(self):
        self.tells(False, [(0, "c"), (1, "c"), (2, "a"), (3, "b"), (4, "a"), (6, "a"), (6, "a")])
        self.tells(False, [(0, "c"), (1, "c"), (2, "a"), (3, "b"), (3, "a"), (6, "a"), (9, "a")])

    def test_two_rows_exchanged(self):
        for at in range(len(ROWS) - 1):
            self.tells(False, ROWS[:at] + [ROWS[at + 1], ROWS[at]] + ROWS[at + 2:])
        self.tells(False, ROWS[::-1])

    def test_a_row_more(self):
        for row in ((5, "a"), (5, "b"), (10, "a"), (5, "d"), (6, "d")):
            self.tells(False, sorted(ROWS + [row]))

    def test_another_name(self):
        for at, (turn, name) in enumerate(ROWS):
            for other in ("a", "b", "c", "d", "e", "A", "", None, 0, True, [], [name], (name,), {}):
                if other != name:
                    self.tells(False, ROWS[:at] + [(turn, other)] + ROWS[at + 1:])

    def test_a_turn_out_of_the_window(self):
        one = Pieces([("a", 2, 9, 2, 1)])
        for turn in range(-2, 12):
            self.tells(2 <= turn <= 9, [(turn, "a")], {}, one)
        empty = Pieces([("a", 6, 5, 2, 1)])
        for turn in range(4, 8):
            self.tells(False, [(turn, "a")], {}, empty)
        self.tells(False, [], {}, empty)

    def test_what_is_no_turn(self):
        one = Pieces([("a", 0, 9, 1)])
        self.tells(True, [(1, "a")], {}, one)
        for turn in (True, False, None, "1", "", [1], (1,), {}, -1, 10, 10 ** 29, -(10 ** 29)):
            self.tells(False, [(turn, "a")], {}, one)
            self.tells(False, [(turn, "c"), *ROWS[1:]])
            self.tells(False, [ROWS[0], (turn, "c"), *ROWS[2:]])

    def test_rows_of_another_form(self):
        for at, (turn, name) in enumerate(ROWS):
            for row in ([turn, name], (turn,), (name,), (), (turn, name, name), (turn, name, None), (name, turn), turn,
                        name, None, {turn: name}, f"{turn} {name}", ((turn, name),)):
                self.tells(False, ROWS[:at] + [row] + ROWS[at + 1:])
        self.tells(False, tuple(ROWS))
        self.tells(False, dict(ROWS))
        self.tells(False, [ROWS])

    def test_any_thing_as_rows(self):
        mow = Pieces([("mow", 3, 40, 5, 1)])
        for thing in all_things():
            self.tells(False, thing)
            self.tells(thing == [(3, "mow")], thing, {}, mow)
            self.tells(thing == [], thing, {}, Pieces([]))

    def test_any_thing_as_a_row(self):
        mow = Pieces([("mow", 3, 40, 5, 1)])
        for thing in all_things():
            self.tells(thing == (3, "mow"), [thing], {}, mow)
            self.tells(False, [(3, "mow"), thing], {}, mow)
            self.tells(False, [(3, thing)] if thing != "mow" else [], {}, mow)
            self.tells(type(thing) is int and 3 <= thing <= 40, [(thing, "mow")], {}, mow)

    def test_no_pieces(self):
        self.tells(True, [], {}, Pieces([]))
        self.tells(False, [(0, "a")], {}, Pieces([]))

    def test_pieces_with_nothing_left(self):
        one = Pieces([("a", 2, 9, 3, 0)])
        self.tells(True, [], {}, one)
        self.tells(False, [(2, "a"), (3, "a"), (4, "a")], {}, one)
        self.tells(True, [(2, "a"), (3, "a"), (9, "a")], {"a": 1}, one)
        self.tells(False, [], {"a": 1}, one)
        self.tells(False, [(1, "a"), (3, "a"), (9, "a")], {"a": 1}, one)

    def test_just_where_nobody_is_late(self):
        late = 0
        for pieces in small_pieces(80):
            for counts in all_counts(pieces, 2):
                told = run(pieces, counts)
                late += told.late() != []
                self.tells(told.late() == [], told.rows(), counts, pieces)
        self.assertGreater(late, 100)
        for pieces in [*wide_pieces(12), thirty_pieces()]:
            for many in (0, 1, 3):
                counts = {name: many for name in pieces.names()}
                told = run(pieces, counts)
                self.tells(told.late() == [], told.rows(), counts, pieces)

    def test_counts_with_and_without_a_nought(self):
        self.tells(True, ROWS, {"d": 0, "c": 1, "b": 0, "a": 1})

    def test_the_same_question_has_an_equal_answer(self):
        for _ in range(2):
            self.tells(True, ROWS)
            self.tells(False, ROWS[1:])


class RefusalTest(unittest.TestCase):
    def test_no_counts_goes_ahead_of_whatever_the_rows_are(self):
        for rows in (ROWS, [], None, True, 0, "rows", [None], [(0, "e")], {}):
            for counts in ({"e": 0}, {"a": True}, {"a": 201}, {"a": 200, "b": 1}, {"a": -1}, {1: 1}, [], None, "a", False):
                self.assertIs(refusal(self, NoCounts, does, PIECES, counts, rows).found, counts)

    def test_any_things(self):
        for thing in all_things():
            if is_counts(PIECES, thing):
                self.assertIs(does(PIECES, thing, thing), False)
            else:
                self.assertIs(refusal(self, NoCounts, does, PIECES, thing, thing).found, thing)
                self.assertIs(refusal(self, NoCounts, does, PIECES, thing, ROWS).found, thing)


if __name__ == "__main__":
    unittest.main()
