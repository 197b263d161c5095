"""Points 61 to 64: how many failings can be borne."""

import unittest

from failslack.bearing import borne, borne_papers, each_borne, tight
from failslack.orders import does
from failslack.papers import Crowd, Kept
from failslack.pieces import Pieces
from failslack.runs import run
from failslack.stretches import lefts, room, stretches, within
from failslack.weighing import is_kept, too_short
from tests.things import loose_pieces, small_pieces, thirty_pieces, wide_pieces

ROWS = (("mow", 3, 40, 5, 5), ("hay", 10, 20, 4, 1), ("saw", 10, 30, 5, 2))


def all_sorts():
    return [*small_pieces(80), *loose_pieces(60), *wide_pieces(10), thirty_pieces(), Pieces(ROWS), Pieces([])]


def tried_out(pieces):
    """The greatest number of failings for which they are kept, by asking for each."""
    kept = [failings for failings in range(301) if is_kept(pieces, failings)]
    return max(kept, default=-1) if pieces.names() else None


class BorneTest(unittest.TestCase):
    def test_no_pieces(self):
        self.assertIsNone(borne(Pieces([])))

    def test_one_piece(self):
        for last, number in ((12, 0), (17, 0), (18, 1), (23, 1), (24, 2), (11, -1), (9, -1)):
            self.assertEqual(borne(Pieces([("a", 10, last, 6, 3)])), number, last)

    def test_three_pieces(self):
        self.assertEqual(borne(Pieces(ROWS)), 2)

    def test_thirty_pieces(self):
        self.assertEqual(borne(thirty_pieces()), 4)

    def test_not_even_none(self):
        for rows in ([("a", 5, 4, 1)], [("a", 5, 4, 12, 12)], [("a", 5, 5, 12)], [("a", 5, 6, 2), ("b", 5, 6, 1)]):
            self.assertEqual(borne(Pieces(rows)), -1)
        self.assertEqual(borne(Pieces([*ROWS, ("a", 0, 0, 12)])), -1)

    def test_far_below_none_it_is_minus_one_too(self):
        for many in (2, 3, 30):
            self.assertEqual(borne(Pieces([(f"a{at}", 5, 5, 2) for at in range(many)])), -1)
            self.assertEqual(borne(Pieces([(f"a{at}", 5, 4, 12) for at in range(many)])), -1)

    def test_empty_windows_with_nothing_left(self):
        self.assertEqual(borne(Pieces([("a", 200, 199, 1, 0)])), 0)

    def test_two_hundred(self):
        self.assertEqual(borne(Pieces([("a", 0, 199, 1, 0)])), 200)
        self.assertEqual(borne(Pieces([("a", 0, 199, 1, 1)])), 199)
        self.assertEqual(borne(Pieces([(f"a{at}", 0, 199, 1, 0) for at in range(30)])), 200)
        self.assertEqual(borne(Pieces([("a", 0, 199, 1, 0), ("b", 1, 199, 1, 0)])), 199)

    def test_as_it_is_tried_out(self):
        told = []
        for pieces in all_sorts():
            self.assertEqual(borne(pieces), tried_out(pieces))
            told.append(borne(pieces))
        for number in (-1, 0, 1, 2, 3):
            self.assertIn(number, told)

    def test_it_is_the_least_of_what_the_stretches_let(self):
        for pieces in all_sorts():
            if pieces.names():
                lets = []
                for stretch in stretches(pieces):
                    far = max(pieces.row(name)[3] for name in within(pieces, stretch))
                    lets.append((room(stretch) - lefts(pieces, stretch)) // far)
                self.assertEqual(borne(pieces), max(-1, min(lets)))

    def test_names_and_order_change_no_number(self):
        for pieces in small_pieces(40):
            rows = [(f"x{at}", *row[1:]) for at, row in enumerate(pieces.told())]
            self.assertEqual(borne(Pieces(rows[::-1])), borne(pieces))


class PapersTest(unittest.TestCase):
    def test_no_pieces(self):
        told = borne_papers(Pieces([]))
        self.assertIs(type(told), tuple)
        number, kept, crowd = told
        self.assertIsNone(number)
        self.assertIsNone(crowd)
        self.assertIs(type(kept), Kept)
        self.assertEqual((kept.told(), kept.holds()), (("kept", 300), True))

    def test_three_pieces(self):
        number, kept, crowd = borne_papers(Pieces(ROWS))
        self.assertEqual(number, 2)
        self.assertEqual((kept.told(), kept.holds()), (("kept", 2), True))
        self.assertEqual((crowd.told(), crowd.holds()), (("crowd", 3, 10, 20), True))

    def test_none_borne(self):
        number, kept, crowd = borne_papers(Pieces([("a", 5, 6, 2)]))
        self.assertEqual((number, kept.told(), crowd.told()), (0, ("kept", 0), ("crowd", 1, 5, 6)))

    def test_not_even_none(self):
        number, kept, crowd = borne_papers(Pieces([("b", 0, 20, 1), ("a", 5, 5, 2)]))
        self.assertEqual((number, kept), (-1, None))
        self.assertEqual((crowd.told(), crowd.holds()), (("crowd", 0, 5, 5), True))

    def test_two_hundred(self):
        number, kept, crowd = borne_papers(Pieces([("a", 0, 199, 1, 0)]))
        self.assertEqual((number, kept.told(), crowd.told()), (200, ("kept", 200), ("crowd", 201, 0, 199)))
        self.assertEqual((kept.holds(), crowd.holds()), (True, True))

    def test_all_sorts_of_pieces(self):
        for pieces in all_sorts():
            number, kept, crowd = borne_papers(pieces)
            self.assertEqual(number, borne(pieces))
            if number is None:
                continue
            self.assertIs(type(crowd), Crowd)
            self.assertIs(crowd.holds(), True)
            self.assertEqual(crowd.told(), ("crowd", number + 1, *too_short(pieces, number + 1)))
            if number == -1:
                self.assertIsNone(kept)
            else:
                self.assertIs(type(kept), Kept)
                self.assertEqual((kept.told(), kept.holds()), (("kept", number), True))

    def test_an_order_of_work_for_what_fails(self):
        number, kept, crowd = borne_papers(Pieces(ROWS))
        for counts in ({}, {"mow": 2}, {"hay": 1, "saw": 1}):
            self.assertIs(does(Pieces(ROWS), counts, kept.order(counts)), True)


class TightTest(unittest.TestCase):
    def test_no_pieces(self):
        self.assertEqual(tight(Pieces([])), [])

    def test_one_and_several(self):
        self.assertEqual(tight(Pieces(ROWS)), [(10, 20)])
        self.assertEqual(tight(Pieces([("a", 5, 9, 2)])), [(5, 9)])
        self.assertEqual(tight(Pieces([("b", 50, 53, 2), ("a", 10, 13, 2)])), [(10, 13), (50, 53)])
        self.assertEqual(tight(Pieces([("a", 0, 5, 3), ("b", 0, 4, 1)])), [(0, 5)])
        self.assertEqual(tight(Pieces([("a", 0, 3, 2), ("b", 0, 4, 1)])), [(0, 3), (0, 4)])

    def test_not_even_none(self):
        pieces = Pieces([("b", 0, 3, 2), ("a", 5, 5, 2), ("c", 9, 8, 1)])
        self.assertEqual(tight(pieces), [(5, 5), (9, 8)])

    def test_all_sorts_of_pieces(self):
        several = 0
        for pieces in all_sorts():
            told = tight(pieces)
            number = borne(pieces)
            if number is None:
                continue
            due = [stretch for stretch in stretches(pieces) if Crowd(pieces, number + 1, stretch).holds()]
            self.assertEqual(told, due)
            self.assertEqual(told[0], borne_papers(pieces)[2].stretch())
            several += len(told) > 1
        self.assertGreater(several, 20)

    def test_a_list_that_was_told_is_the_askers_own(self):
        pieces = Pieces(ROWS)
        tight(pieces).clear()
        self.assertEqual(tight(pieces), [(10, 20)])


class EachTest(unittest.TestCase):
    def test_no_pieces(self):
        self.assertEqual(each_borne(Pieces([])), {})

    def test_one_and_several(self):
        self.assertEqual(each_borne(Pieces([("a", 10, 24, 6, 3)])), {"a": 2})
        self.assertEqual(each_borne(Pieces(ROWS)), {"mow": 6, "hay": 2, "saw": 3})
        self.assertEqual(each_borne(Pieces([("a", 0, 199, 1, 0)])), {"a": 200})
        self.assertEqual(each_borne(Pieces([("a", 200, 199, 1, 0)])), {"a": 0})

    def test_minus_one_for_all(self):
        self.assertEqual(each_borne(Pieces([*ROWS, ("a", 0, 0, 2)])), {"mow": -1, "hay": -1, "saw": -1, "a": -1})

    def test_in_the_pieces_order(self):
        self.assertEqual(list(each_borne(Pieces(ROWS[::-1]))), ["saw", "hay", "mow"])
        self.assertEqual(list(each_borne(Pieces([("b", 0, 0, 2), ("a", 0, 9, 1)])).items()), [("b", -1), ("a", -1)])

    def test_one_failing_more_makes_somebody_late(self):
        for pieces in [*small_pieces(80), *loose_pieces(60), thirty_pieces()]:
            told = each_borne(pieces)
            for name, number in told.items():
                for many in range(number + 1):
                    self.assertEqual(run(pieces, {name: many}).late(), [], (pieces.told(), name))
                self.assertNotEqual(run(pieces, {name: number + 1}).late(), [], (pieces.told(), name))

    def test_never_less_than_what_is_borne_and_just_this_for_some_piece(self):
        for pieces in all_sorts():
            if pieces.names():
                self.assertEqual(min(each_borne(pieces).values()), borne(pieces))

    def test_a_dict_that_was_told_is_the_askers_own(self):
        pieces = Pieces(ROWS)
        told = each_borne(pieces)
        told["mow"] = 9
        del told["hay"]
        self.assertEqual(each_borne(pieces), {"mow": 6, "hay": 2, "saw": 3})

    def test_the_same_question_has_an_equal_answer(self):
        one = Pieces(ROWS)
        two = Pieces(list(ROWS))
        for call in (borne, tight, each_borne):
            self.assertEqual(call(one), call(one))
            self.assertEqual(call(one), call(two))
        self.assertEqual(one.told(), ROWS)


if __name__ == "__main__":
    unittest.main()
