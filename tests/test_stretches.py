"""Points 4 and 21 to 24: stretches, who is within them, and what these need."""

import copy
import unittest

from failslack import stretches as part
from failslack.errors import NoFailings, NoStretch
from failslack.pieces import Pieces
from failslack.stretches import (
    is_stretch, lefts, longest, need, need_failings, room, short, stretches, within,
)
from tests.things import all_stretches, all_things, is_int, refusal, small_pieces, thirty_pieces, wide_pieces

ROWS = (("mow", 3, 40, 5, 5), ("hay", 10, 20, 4, 1), ("oil", 0, 199, 12, 0), ("saw", 10, 30, 5, 2), ("dig", 21, 20, 3, 3))
GOOD = ((0, 199), (0, 0), (0, -1), (1, 0), (7, 7), (199, 199), (199, 198), (200, 199), (3, 40))
BAD = (
    (-1, 5), (201, 199), (201, 200), (0, 200), (200, 200), (0, -2), (5, 3), (200, 198), (-1, -2), (-1, -1),
    (True, 5), (False, 5), (0, True), (0, False), (True, True), (False, False), (None, 5), (0, None), ("0", "5"),
    ((0,), 5), ([0], [5]), (10 ** 29, 10 ** 29), (0, -(10 ** 29)), (), (0,), (0, 5, 5), (0, 5, None), [0, 5], [0], [],
    "05", {0: 5}, {0, 5}, None, True, False, 0, 5,
)
NO_FAILINGS = (-1, 301, 302, 10 ** 29, -(10 ** 29), True, False, None, "0", "", [], [0], (), (0,), {}, {0: 0})


def due_stretch(thing):
    if type(thing) is not tuple or len(thing) != 2 or type(thing[0]) is not int or type(thing[1]) is not int:
        return False
    return 0 <= thing[0] <= 200 and thing[0] - 1 <= thing[1] <= 199


def due_within(pieces, stretch):
    return [row for row in pieces.told() if stretch[0] <= row[1] and row[2] <= stretch[1]]


def due_need(pieces, stretch, failings):
    rows = due_within(pieces, stretch)
    return sum(row[4] for row in rows) + failings * max((row[3] for row in rows), default=0)


class IsStretchTest(unittest.TestCase):
    def test_stretches_at_each_bound(self):
        for thing in GOOD:
            self.assertIs(is_stretch(thing), True, thing)

    def test_what_is_none(self):
        for thing in BAD:
            self.assertIs(is_stretch(thing), False, thing)

    def test_all_numbers_around_the_bounds(self):
        around = (-2, -1, 0, 1, 2, 3, 100, 197, 198, 199, 200, 201, 202)
        for start in around:
            for end in around:
                self.assertIs(is_stretch((start, end)), due_stretch((start, end)), (start, end))

    def test_any_thing(self):
        for thing in all_things():
            self.assertIs(is_stretch(thing), due_stretch(thing), thing)


class RefusalTest(unittest.TestCase):
    def setUp(self):
        self.pieces = Pieces(ROWS)

    def calls(self):
        return (
            room, lambda thing: within(self.pieces, thing), lambda thing: lefts(self.pieces, thing),
            lambda thing: longest(self.pieces, thing), lambda thing: need(self.pieces, thing, 1),
            lambda thing: short(self.pieces, thing, 1), lambda thing: within(Pieces([]), thing),
            lambda thing: lefts(Pieces([]), thing), lambda thing: longest(Pieces([]), thing),
            lambda thing: need(Pieces([]), thing, 1), lambda thing: short(Pieces([]), thing, 1),
        )

    def test_what_is_no_stretch(self):
        for thing in BAD:
            for call in self.calls():
                self.assertIs(refusal(self, NoStretch, call, thing).found, thing)

    def test_any_thing_as_a_stretch(self):
        for thing in all_things():
            for call in self.calls():
                if due_stretch(thing):
                    call(thing)
                else:
                    self.assertIs(refusal(self, NoStretch, call, thing).found, thing)

    def test_no_stretch_goes_ahead_of_no_failings(self):
        for call in (need, short):
            for failings in NO_FAILINGS:
                for thing in (*BAD, failings):
                    self.assertIs(refusal(self, NoStretch, call, self.pieces, thing, failings).found, thing)

    def test_failings_at_their_bounds(self):
        for failings in (0, 1, 299, 300):
            self.assertIsNone(need_failings(failings))
            for pieces in (self.pieces, Pieces([])):
                for stretch in GOOD:
                    due = due_need(pieces, stretch, failings)
                    self.assertEqual(need(pieces, stretch, failings), due)
                    self.assertEqual(short(pieces, stretch, failings), due - (stretch[1] - stretch[0] + 1))

    def test_what_are_no_failings(self):
        for failings in NO_FAILINGS:
            self.assertIs(refusal(self, NoFailings, need_failings, failings).found, failings)
            for call in (need, short):
                for pieces in (self.pieces, Pieces([])):
                    for stretch in GOOD:
                        self.assertIs(refusal(self, NoFailings, call, pieces, stretch, failings).found, failings)

    def test_any_thing_as_failings(self):
        for thing in all_things():
            if is_int(thing, 0, 300):
                self.assertIsNone(need_failings(thing))
                self.assertEqual(need(self.pieces, (10, 20), thing), 4 + 4 * thing)
                self.assertEqual(short(self.pieces, (10, 20), thing), 4 * thing - 7)
            else:
                self.assertIs(refusal(self, NoFailings, need_failings, thing).found, thing)
                self.assertIs(refusal(self, NoFailings, need, self.pieces, (0, 9), thing).found, thing)
                self.assertIs(refusal(self, NoFailings, short, self.pieces, (0, 9), thing).found, thing)

    def test_what_is_handed_in_is_not_changed(self):
        for thing in all_things():
            before = copy.deepcopy(thing)
            for call in self.calls():
                try:
                    call(thing)
                except NoStretch:
                    pass
            self.assertEqual(thing, before)
        self.assertEqual(self.pieces.told(), ROWS)


class WithinTest(unittest.TestCase):
    def setUp(self):
        self.pieces = Pieces(ROWS)

    def sees(self, stretch, names, left, far):
        self.assertEqual(within(self.pieces, stretch), names, stretch)
        self.assertEqual(lefts(self.pieces, stretch), left, stretch)
        self.assertEqual(longest(self.pieces, stretch), far, stretch)

    def test_room(self):
        for stretch, turns in (((0, 199), 200), ((0, 0), 1), ((0, -1), 0), ((5, 4), 0), ((200, 199), 0), ((3, 40), 38)):
            self.assertEqual(room(stretch), turns)
            self.assertIs(type(room(stretch)), int)

    def test_pieces_at_their_windows_and_one_turn_beside(self):
        one = Pieces([("hay", 10, 20, 4, 1)])
        for start in range(8, 13):
            for end in range(18, 23):
                inside = start <= 10 and end >= 20
                self.assertEqual(within(one, (start, end)), ["hay"] if inside else [], (start, end))
                self.assertEqual(lefts(one, (start, end)), 1 if inside else 0, (start, end))
                self.assertEqual(longest(one, (start, end)), "hay" if inside else None, (start, end))

    def test_several_in_their_order(self):
        self.sees((0, 199), ["mow", "hay", "oil", "saw", "dig"], 11, "oil")
        self.sees((3, 40), ["mow", "hay", "saw", "dig"], 11, "mow")
        self.sees((3, 39), ["hay", "saw", "dig"], 6, "saw")
        self.sees((4, 40), ["hay", "saw", "dig"], 6, "saw")
        self.sees((10, 20), ["hay", "dig"], 4, "hay")
        self.sees((10, 30), ["hay", "saw", "dig"], 6, "saw")

    def test_nobody_within(self):
        for stretch in ((0, 2), (11, 19), (22, 199), (0, -1), (22, 21), (200, 199)):
            self.sees(stretch, [], 0, None)
        for stretch in GOOD:
            self.assertEqual(within(Pieces([]), stretch), [])
            self.assertEqual(lefts(Pieces([]), stretch), 0)
            self.assertIsNone(longest(Pieces([]), stretch))

    def test_empty_windows(self):
        self.sees((21, 20), ["dig"], 3, "dig")
        self.sees((21, 21), ["dig"], 3, "dig")
        self.sees((20, 20), ["dig"], 3, "dig")
        self.sees((22, 21), [], 0, None)
        self.sees((20, 19), [], 0, None)
        self.sees((21, 199), ["dig"], 3, "dig")
        last = Pieces([("end", 200, 199, 2)])
        self.assertEqual(within(last, (200, 199)), ["end"])
        self.assertEqual(within(last, (199, 199)), ["end"])
        self.assertEqual(within(last, (199, 198)), [])

    def test_the_first_of_several_with_the_greatest_length(self):
        rows = [("a", 5, 9, 3), ("b", 5, 9, 7, 1), ("c", 5, 9, 7), ("d", 5, 8, 7, 0), ("e", 4, 9, 12)]
        self.assertEqual(longest(Pieces(rows), (5, 9)), "b")
        self.assertEqual(longest(Pieces(rows[::-1]), (5, 9)), "d")
        self.assertEqual(longest(Pieces(rows), (4, 9)), "e")
        self.assertEqual(longest(Pieces(rows), (5, 8)), "d")

    def test_all_stretches_of_small_pieces(self):
        for pieces in small_pieces(30):
            for stretch in all_stretches(0, 13):
                rows = due_within(pieces, stretch)
                self.assertEqual(within(pieces, stretch), [row[0] for row in rows])
                self.assertEqual(lefts(pieces, stretch), sum(row[4] for row in rows))
                greatest = max((row[3] for row in rows), default=None)
                due = next((row[0] for row in rows if row[3] == greatest), None)
                self.assertEqual(longest(pieces, stretch), due)

    def test_lists_that_were_told_are_the_askers_own(self):
        told = within(self.pieces, (3, 40))
        told.append("cow")
        del told[0]
        self.sees((3, 40), ["mow", "hay", "saw", "dig"], 11, "mow")
        self.assertIsNot(within(self.pieces, (3, 40)), within(self.pieces, (3, 40)))


class NeedTest(unittest.TestCase):
    def setUp(self):
        self.pieces = Pieces(ROWS)

    def test_what_is_left_and_the_longest_for_each_failing(self):
        for failings in (0, 1, 2, 7, 300):
            self.assertEqual(need(self.pieces, (0, 199), failings), 11 + 12 * failings)
            self.assertEqual(need(self.pieces, (3, 40), failings), 11 + 5 * failings)
            self.assertEqual(need(self.pieces, (10, 20), failings), 4 + 4 * failings)
            self.assertEqual(need(self.pieces, (21, 20), failings), 3 + 3 * failings)
            self.assertEqual(short(self.pieces, (0, 199), failings), 12 * failings - 189)
            self.assertEqual(short(self.pieces, (21, 20), failings), 3 + 3 * failings)
            self.assertEqual(short(self.pieces, (10, 20), failings), 4 * failings - 7)

    def test_nobody_within(self):
        for failings in (0, 1, 300):
            self.assertEqual(need(self.pieces, (0, 2), failings), 0)
            self.assertEqual(short(self.pieces, (0, 2), failings), -3)
            self.assertEqual(short(self.pieces, (0, -1), failings), 0)
            self.assertEqual(short(Pieces([]), (0, 199), failings), -200)

    def test_just_enough_and_one_turn_less(self):
        self.assertEqual(short(Pieces([("a", 5, 9, 2, 1)]), (5, 9), 2), 0)
        self.assertEqual(short(Pieces([("a", 5, 9, 2, 2)]), (5, 9), 2), 1)
        self.assertEqual(short(Pieces([("a", 5, 9, 2, 0)]), (5, 9), 2), -1)

    def test_all_stretches_of_small_pieces(self):
        for pieces in small_pieces(30):
            for stretch in all_stretches(0, 13):
                for failings in (0, 1, 3):
                    due = due_need(pieces, stretch, failings)
                    self.assertEqual(need(pieces, stretch, failings), due)
                    self.assertEqual(short(pieces, stretch, failings), due - (stretch[1] - stretch[0] + 1))

    def test_the_same_question_has_an_equal_answer(self):
        for call in (need, short):
            due = call(self.pieces, (3, 40), 2)
            self.assertEqual(call(self.pieces, (3, 40), 2), due)
            self.assertEqual(call(Pieces(list(ROWS)), (3, 40), 2), due)


class StretchesTest(unittest.TestCase):
    def due(self, pieces):
        starts = {row[1] for row in pieces.told()}
        ends = {row[2] for row in pieces.told()}
        return sorted((start, end) for start in starts for end in ends if due_within(pieces, (start, end)))

    def test_no_pieces_and_one(self):
        self.assertEqual(stretches(Pieces([])), [])
        self.assertEqual(stretches(Pieces([("a", 0, 0, 1)])), [(0, 0)])
        self.assertEqual(stretches(Pieces([("a", 3, 40, 5)])), [(3, 40)])
        self.assertEqual(stretches(Pieces([("a", 200, 199, 5)])), [(200, 199)])
        self.assertEqual(stretches(Pieces([("a", 4, 3, 5, 0)])), [(4, 3)])

    def test_a_start_and_an_end_of_pieces_that_are_not_within(self):
        # From the first turn of a to the last turn of c there is only b.
        pieces = Pieces([("a", 2, 30, 1), ("b", 10, 15, 1), ("c", 0, 20, 1)])
        self.assertEqual(stretches(pieces), [
            (0, 15), (0, 20), (0, 30), (2, 15), (2, 20), (2, 30), (10, 15), (10, 20), (10, 30),
        ])
        self.assertEqual(within(pieces, (2, 20)), ["b"])

    def test_nobody_within(self):
        pieces = Pieces([("a", 0, 9, 1), ("b", 5, 20, 1), ("c", 30, 40, 1)])
        self.assertEqual(stretches(pieces), [(0, 9), (0, 20), (0, 40), (5, 20), (5, 40), (30, 40)])

    def test_each_once_and_rising(self):
        rows = [("a", 5, 9, 1), ("b", 5, 9, 2), ("c", 5, 7, 1), ("d", 3, 9, 1), ("e", 3, 7, 4)]
        self.assertEqual(stretches(Pieces(rows)), [(3, 7), (3, 9), (5, 7), (5, 9)])
        self.assertEqual(stretches(Pieces(rows[::-1])), [(3, 7), (3, 9), (5, 7), (5, 9)])

    def test_numbers_do_not_rise_as_texts_do(self):
        pieces = Pieces([("a", 100, 110, 1), ("b", 20, 30, 1), ("c", 3, 9, 1)])
        self.assertEqual(stretches(pieces), [(3, 9), (3, 30), (3, 110), (20, 30), (20, 110), (100, 110)])

    def test_empty_windows(self):
        pieces = Pieces([("a", 5, 4, 1), ("b", 5, 9, 1), ("c", 10, 9, 1, 0)])
        self.assertEqual(stretches(pieces), [(5, 4), (5, 9), (10, 9)])

    def test_all_sorts_of_pieces(self):
        for pieces in [*small_pieces(200), *wide_pieces(20), thirty_pieces(), Pieces(ROWS)]:
            told = stretches(pieces)
            self.assertEqual(told, self.due(pieces))
            for stretch in told:
                self.assertIs(is_stretch(stretch), True)

    def test_no_other_stretch_is_shorter(self):
        for pieces in small_pieces(60):
            there = stretches(pieces)
            for stretch in all_stretches(0, 15):
                names = within(pieces, stretch)
                if names:
                    alike = [other for other in there if within(pieces, other) == names and room(other) <= room(stretch)]
                    self.assertNotEqual(alike, [], stretch)
            for failings in (0, 1, 2, 300):
                due = max((short(pieces, stretch, failings) for stretch in there), default=0)
                for stretch in all_stretches(0, 15):
                    self.assertLessEqual(short(pieces, stretch, failings), max(0, due), (pieces.told(), stretch))

    def test_lists_that_were_told_are_the_askers_own(self):
        pieces = Pieces(ROWS)
        told = stretches(pieces)
        told.clear()
        self.assertEqual(stretches(pieces), self.due(pieces))

    def test_the_order_of_pieces_and_their_names_change_nothing(self):
        rows = [(f"x{at}", *row[1:]) for at, row in enumerate(ROWS)]
        self.assertEqual(stretches(Pieces(rows[::-1])), stretches(Pieces(ROWS)))


class InterfaceTest(unittest.TestCase):
    def test_all_names_stand_there(self):
        for name in ("is_stretch", "room", "within", "lefts", "longest", "need", "short", "need_failings", "stretches"):
            self.assertTrue(callable(getattr(part, name)))


if __name__ == "__main__":
    unittest.main()
