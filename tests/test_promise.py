"""Point 9: what is promised of all pieces and failings."""

import unittest

from failslack.orders import does
from failslack.pieces import Pieces
from failslack.runs import run, run_asking
from failslack.stretches import longest, lefts, room, within
from failslack.weighing import is_kept, too_short
from tests.things import all_counts, loose_pieces, small_pieces, thirty_pieces, wide_pieces


class KeptTest(unittest.TestCase):
    def test_kept_pieces_are_done_in_time_for_all_counts(self):
        tested = 0
        for pieces in [*small_pieces(100), *loose_pieces(100)]:
            for failings in (0, 1, 2, 3):
                if is_kept(pieces, failings):
                    tested += failings > 0 and len(pieces.names()) > 1
                    for counts in all_counts(pieces, failings):
                        told = run(pieces, counts)
                        self.assertEqual(told.late(), [], (pieces.told(), counts))
                        self.assertIs(does(pieces, counts, told.rows()), True)
        self.assertGreater(tested, 100)

    def test_kept_pieces_are_done_in_time_where_no_counts_are_known(self):
        for pieces in [*small_pieces(50), *loose_pieces(100), thirty_pieces()]:
            for failings in (0, 1, 2, 4):
                if is_kept(pieces, failings):
                    for odd in range(4):
                        told = run_asking(pieces, lambda name, number: (len(name) + number + odd) % 3 > 0, failings)
                        self.assertEqual(told.late(), [])
                    self.assertEqual(run_asking(pieces, lambda name, number: True, failings).late(), [])

    def test_thirty_pieces_for_each_that_fails_alone(self):
        pieces = thirty_pieces()
        for name in pieces.names():
            self.assertEqual(run(pieces, {name: 4}).late(), [])


class NotKeptTest(unittest.TestCase):
    def test_there_is_a_stretch_in_which_nobody_could_do_them_all(self):
        tested = 0
        for pieces in [*small_pieces(100), *loose_pieces(50), *wide_pieces(10), thirty_pieces()]:
            for failings in (0, 1, 2, 5, 100):
                stretch = too_short(pieces, failings)
                if stretch is None:
                    continue
                tested += 1
                far = longest(pieces, stretch)
                wanted = lefts(pieces, stretch) + failings * pieces.row(far)[3]
                self.assertGreater(wanted, room(stretch))
                counts = {far: failings}
                told = run(pieces, counts)
                self.assertNotEqual(told.late(), [])
                self.assertIs(does(pieces, counts, told.rows()), False)
                alone = [row for row in pieces.told() if row[0] in within(pieces, stretch)]
                self.assertNotEqual(run(Pieces(alone), counts).late(), [])
        self.assertGreater(tested, 100)


if __name__ == "__main__":
    unittest.main()
