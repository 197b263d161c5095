"""Points 4 and 41 to 43: all stretches weighed, and whether pieces are kept."""

import copy
import unittest

from failslack.errors import NoFailings
from failslack.pieces import Pieces
from failslack.stretches import need, room, short, stretches
from failslack.weighing import is_kept, is_table, table, too_short
from tests.things import all_stretches, all_things, is_int, refusal, small_pieces, thirty_pieces, wide_pieces

ROWS = (("mow", 3, 40, 5, 5), ("hay", 10, 20, 4, 1), ("saw", 10, 30, 5, 2))
NO_FAILINGS = (-1, 301, 302, 10 ** 29, -(10 ** 29), True, False, None, "0", "", [], [0], (), (0,), {}, {0: 0})


def due_table(pieces, failings):
    return [(*stretch, need(pieces, stretch, failings), room(stretch)) for stretch in stretches(pieces)]


class TableTest(unittest.TestCase):
    def test_no_pieces(self):
        for failings in (0, 1, 300):
            self.assertEqual(table(Pieces([]), failings), [])
            self.assertIsNone(too_short(Pieces([]), failings))
            self.assertIs(is_kept(Pieces([]), failings), True)

    def test_one_piece(self):
        one = Pieces([("a", 3, 12, 4, 1)])
        self.assertEqual(table(one, 0), [(3, 12, 1, 10)])
        self.assertEqual(table(one, 2), [(3, 12, 9, 10)])
        self.assertEqual(table(one, 300), [(3, 12, 1201, 10)])

    def test_an_empty_window(self):
        self.assertEqual(table(Pieces([("a", 200, 199, 4, 0)]), 1), [(200, 199, 4, 0)])

    def test_three_pieces(self):
        self.assertEqual(table(Pieces(ROWS), 2), [
            (3, 20, 9, 18), (3, 30, 13, 28), (3, 40, 18, 38), (10, 20, 9, 11), (10, 30, 13, 21), (10, 40, 13, 31),
        ])

    def test_kinds(self):
        told = table(Pieces(ROWS), 2)
        self.assertIs(type(told), list)
        for row in told:
            self.assertIs(type(row), tuple)
            self.assertEqual([type(number) for number in row], [int] * 4)

    def test_all_sorts_of_pieces(self):
        for pieces in [*small_pieces(80), *wide_pieces(8), thirty_pieces()]:
            for failings in (0, 1, 7, 300):
                self.assertEqual(table(pieces, failings), due_table(pieces, failings))

    def test_thirty_pieces(self):
        pieces = thirty_pieces()
        self.assertEqual(len(table(pieces, 4)), len(stretches(pieces)))
        self.assertEqual(table(pieces, 4)[0], (0, 20, 4, 21))

    def test_a_table_that_was_told_is_the_askers_own(self):
        pieces = Pieces(ROWS)
        told = table(pieces, 2)
        told.clear()
        self.assertEqual(table(pieces, 2), due_table(pieces, 2))

    def test_the_same_question_has_an_equal_answer(self):
        self.assertEqual(table(Pieces(ROWS), 3), table(Pieces(list(ROWS)), 3))
        self.assertEqual(too_short(Pieces(ROWS), 3), too_short(Pieces(list(ROWS)), 3))

    def test_names_and_order_change_no_number(self):
        others = [(f"x{at}", *row[1:]) for at, row in enumerate(ROWS)][::-1]
        for failings in (0, 2, 5):
            self.assertEqual(table(Pieces(others), failings), table(Pieces(ROWS), failings))


class KeptTest(unittest.TestCase):
    def test_the_greatest_number_that_is_kept_and_one_more(self):
        # 5 + 3 * 4 turns there are in its window.
        one = Pieces([("a", 10, 26, 4, 4)])
        self.assertIs(is_kept(one, 3), True)
        self.assertIsNone(too_short(one, 3))
        self.assertIs(is_kept(one, 4), False)
        self.assertEqual(too_short(one, 4), (10, 26))

    def test_just_enough_turns(self):
        self.assertIs(is_kept(Pieces([("a", 10, 25, 4, 4)]), 3), True)
        self.assertIs(is_kept(Pieces([("a", 10, 24, 4, 4)]), 3), False)

    def test_the_first_of_several_that_are_too_short(self):
        pieces = Pieces(ROWS)
        self.assertEqual([too_short(pieces, failings) for failings in (2, 3, 4)], [None, (10, 20), (10, 20)])
        self.assertEqual(too_short(pieces, 5), (3, 20))
        self.assertEqual(too_short(pieces, 300), (3, 20))
        late = Pieces([("z", 0, 99, 1), ("b", 50, 50, 2), ("a", 20, 20, 2)])
        self.assertEqual(too_short(late, 0), (20, 20))

    def test_not_kept_for_none(self):
        for rows in ([("a", 5, 4, 1)], [("a", 5, 5, 2)], [("a", 5, 6, 2), ("b", 5, 6, 1)]):
            self.assertIs(is_kept(Pieces(rows), 0), False)

    def test_empty_windows_with_nothing_left(self):
        one = Pieces([("a", 5, 4, 1, 0)])
        self.assertIs(is_kept(one, 0), True)
        self.assertIs(is_kept(one, 1), False)
        self.assertEqual(too_short(one, 1), (5, 4))

    def test_by_all_stretches_of_all(self):
        kept = []
        for pieces in small_pieces(80):
            for failings in (0, 1, 2, 3):
                due = all(short(pieces, stretch, failings) <= 0 for stretch in all_stretches(0, 13))
                self.assertIs(is_kept(pieces, failings), due)
                kept.append(due)
        self.assertGreater(kept.count(True), 30)
        self.assertGreater(kept.count(False), 30)

    def test_all_sorts_of_pieces(self):
        for pieces in [*small_pieces(80), *wide_pieces(8), thirty_pieces()]:
            for failings in (0, 1, 2, 4, 5, 300):
                due = next(((start, end) for start, end, much, there in due_table(pieces, failings) if much > there), None)
                self.assertEqual(too_short(pieces, failings), due)
                self.assertIs(is_kept(pieces, failings), due is None)

    def test_thirty_pieces(self):
        self.assertIs(is_kept(thirty_pieces(), 4), True)
        self.assertIs(is_kept(thirty_pieces(), 5), False)


class IsTableTest(unittest.TestCase):
    def setUp(self):
        self.pieces = Pieces(ROWS)
        self.table = due_table(self.pieces, 2)

    def tells(self, due, thing, failings=2, pieces=None):
        before = copy.deepcopy(thing)
        self.assertIs(is_table(self.pieces if pieces is None else pieces, failings, thing), due, thing)
        self.assertEqual(thing, before)

    def test_the_table(self):
        self.tells(True, self.table)
        self.tells(True, table(self.pieces, 2))
        self.tells(True, [], 2, Pieces([]))
        for pieces in [*small_pieces(20), *wide_pieces(4), thirty_pieces()]:
            for failings in (0, 1, 300):
                self.tells(True, due_table(pieces, failings), failings, pieces)

    def test_of_other_failings_or_pieces(self):
        self.tells(False, self.table, 1)
        self.tells(False, self.table, 3)
        self.tells(False, self.table, 2, self.pieces.without("hay"))
        self.tells(False, [])
        self.tells(False, self.table, 2, Pieces([]))

    def test_a_row_more_less_or_exchanged(self):
        for at, row in enumerate(self.table):
            self.tells(False, self.table[:at] + self.table[at + 1:])
            self.tells(False, self.table[:at] + [row] + self.table[at:])
            if at > 0:
                self.tells(False, self.table[:at - 1] + [row, self.table[at - 1]] + self.table[at + 1:])
        self.tells(False, self.table + [(0, 199, 0, 200)])

    def test_one_number_otherwise(self):
        for at, row in enumerate(self.table):
            for place in range(4):
                for other in (row[place] + 1, row[place] - 1, -row[place], str(row[place]), [row[place]], None, True):
                    self.tells(False, self.table[:at] + [row[:place] + (other,) + row[place + 1:]] + self.table[at + 1:])

    def test_truths_are_no_numbers(self):
        one = Pieces([("a", 0, 0, 1)])
        self.tells(True, [(0, 0, 1, 1)], 0, one)
        for row in ((False, 0, 1, 1), (0, False, 1, 1), (0, 0, True, 1), (0, 0, 1, True), (False, False, True, True)):
            self.tells(False, [row], 0, one)

    def test_rows_of_another_form(self):
        for at, row in enumerate(self.table):
            for other in (list(row), row[:3], row + (0,), (), (row,), None, dict(enumerate(row)), str(row)):
                self.tells(False, self.table[:at] + [other] + self.table[at + 1:])
        self.tells(False, tuple(self.table))
        self.tells(False, (), 0, Pieces([]))
        self.tells(False, [self.table])
        self.tells(False, dict.fromkeys(self.table))

    def test_any_thing(self):
        mow = Pieces([("mow", 3, 40, 5)])
        for thing in all_things():
            self.tells(False, thing)
            self.tells(thing == [(3, 40, 5, 38)], thing, 0, mow)
            self.tells(thing == [], thing, 0, Pieces([]))
            self.tells(False, [thing])


class RefusalTest(unittest.TestCase):
    def calls(self, pieces):
        yield lambda thing: table(pieces, thing)
        yield lambda thing: too_short(pieces, thing)
        yield lambda thing: is_kept(pieces, thing)
        yield lambda thing: is_table(pieces, thing, [])
        yield lambda thing: is_table(pieces, thing, None)
        yield lambda thing: is_table(pieces, thing, thing)

    def test_what_are_no_failings(self):
        for pieces in (Pieces(ROWS), Pieces([])):
            for thing in NO_FAILINGS:
                for call in self.calls(pieces):
                    self.assertIs(refusal(self, NoFailings, call, thing).found, thing)

    def test_any_thing_as_failings(self):
        for pieces in (Pieces(ROWS), Pieces([])):
            for thing in all_things():
                for call in self.calls(pieces):
                    if is_int(thing, 0, 300):
                        call(thing)
                    else:
                        self.assertIs(refusal(self, NoFailings, call, thing).found, thing)


if __name__ == "__main__":
    unittest.main()
