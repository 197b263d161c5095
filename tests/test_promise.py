"""Point 9: what is promised of all pieces and failings."""

import unittest

from failslack.bearing import borne, borne_papers
from failslack.orders import does
from failslack.pieces import Pieces
from failslack.runs import run, run_asking
from failslack.stretches import longest, lefts, room, within
from failslack.weighing import is_kept, too_short
from failslack.worst import worst, worst_turns
from tests.things import all_counts, loose_pieces, small_pieces, thirty_pieces, wide_pieces


class KeptTest(unittest.TestCase):
    def test_kept_pieces_are_done_in_time_for_all_counts(self):
        tested = 0
        for pieces in [*small_pieces(100), *loose_pieces(100)]:
            for failings in (0, 1, 2, 3):
                if is_kept(pieces, failings):
                    tested += failings > 0 and len(pieces.names()) > 1
                    for counts in all_counts(pieces, failings):
                        told = run(pieces, counts)
                        self.assertEqual(told.late(), [], (pieces.told(), counts))
                        self.assertIs(does(pieces, counts, told.rows()), True)
        self.assertGreater(tested, 100)

    def test_kept_pieces_are_done_in_time_where_no_counts_are_known(self):
        for pieces in [*small_pieces(50), *loose_pieces(100), thirty_pieces()]:
            for failings in (0, 1, 2, 4):
                if is_kept(pieces, failings):
                    for odd in range(4):
                        told = run_asking(pieces, lambda name, number: (len(name) + number + odd) % 3 > 0, failings)
                        self.assertEqual(told.late(), [])
                    self.assertEqual(run_asking(pieces, lambda name, number: True, failings).late(), [])

    def test_thirty_pieces_for_each_that_fails_alone(self):
        pieces = thirty_pieces()
        for name in pieces.names():
            self.assertEqual(run(pieces, {name: 4}).late(), [])


class NotKeptTest(unittest.TestCase):
    def test_there_is_a_stretch_in_which_nobody_could_do_them_all(self):
        tested = 0
        for pieces in [*small_pieces(100), *loose_pieces(50), *wide_pieces(10), thirty_pieces()]:
            for failings in (0, 1, 2, 5, 100):
                stretch = too_short(pieces, failings)
                if stretch is None:
                    continue
                tested += 1
                far = longest(pieces, stretch)
                wanted = lefts(pieces, stretch) + failings * pieces.row(far)[3]
                self.assertGreater(wanted, room(stretch))
                counts = {far: failings}
                told = run(pieces, counts)
                self.assertNotEqual(told.late(), [])
                self.assertIs(does(pieces, counts, told.rows()), False)
                alone = [row for row in pieces.told() if row[0] in within(pieces, stretch)]
                self.assertNotEqual(run(Pieces(alone), counts).late(), [])
        self.assertGreater(tested, 100)


class BorneTest(unittest.TestCase):
    def pieces(self):
        return [*small_pieces(120), *loose_pieces(120), *wide_pieces(10), thirty_pieces()]

    def test_the_number_is_exact_by_both_papers(self):
        for pieces in [*small_pieces(60), *loose_pieces(60)]:
            number, kept, crowd = borne_papers(pieces)
            if number is not None and number <= 3:
                for counts in all_counts(pieces, max(number, 0)):
                    if number >= 0:
                        self.assertIs(does(pieces, counts, kept.order(counts)), True)
                self.assertIs(does(pieces, crowd.counts(), run(pieces, crowd.counts()).rows()), False)

    def test_a_failing_makes_it_less_by_one_at_the_most(self):
        less = 0
        for pieces in self.pieces():
            for name, _, _, length, _ in pieces.told():
                ended = pieces.with_left(name, 0)
                behind = borne(ended.with_left(name, length))
                self.assertGreaterEqual(behind, borne(ended) - 1)
                less += behind == borne(ended) - 1
        self.assertGreater(less, 100)

    def test_work_by_the_nearest_last_turn_never_makes_it_less(self):
        for pieces in self.pieces():
            for row in pieces.told():
                if row[4] == 0:
                    pieces = pieces.without(row[0])
            for turn in range(25):
                now = pieces.since(turn)
                ready = [(row[2], at, row[0]) for at, row in enumerate(now.told()) if row[1] <= turn]
                behind = now.since(turn + 1)
                if ready:
                    name = min(ready)[2]
                    behind = now.with_left(name, now.row(name)[4] - 1).since(turn + 1)
                if borne(now) is not None:
                    self.assertGreaterEqual(borne(behind), borne(now))
                pieces = behind
                if ready and behind.row(name)[4] == 0:
                    pieces = behind.without(name)

    def test_a_piece_that_goes_never_makes_it_less(self):
        for pieces in self.pieces():
            for name in pieces.names():
                fewer = pieces.without(name)
                if fewer.names():
                    self.assertGreaterEqual(borne(fewer), borne(pieces))

    def test_a_later_last_turn_never_makes_it_less(self):
        for pieces in self.pieces():
            for name, _, last, _, _ in pieces.told():
                for later in (last + 1, last + 5, 199):
                    if last < later <= 199:
                        self.assertGreaterEqual(borne(pieces.with_last(name, later)), borne(pieces))


class LatestTest(unittest.TestCase):
    def test_no_piece_is_ever_later(self):
        for pieces in loose_pieces(60):
            for failings in (0, 1, 2):
                latest = worst_turns(pieces, failings)
                seen = {name: -1 for name in latest}
                for counts in all_counts(pieces, failings):
                    told = run(pieces, counts)
                    seen = {name: max(turn, told.done_turn(name)) for name, turn in seen.items()}
                self.assertEqual(latest, seen)

    def test_counts_that_bring_it_there(self):
        for pieces in [*wide_pieces(3), thirty_pieces()]:
            for name in pieces.names():
                turn, counts = worst(pieces, 7, name)
                self.assertLessEqual(sum(counts.values()), 7)
                self.assertEqual(run(pieces, counts).done_turn(name), turn)


if __name__ == "__main__":
    unittest.main()
