"""Points 51 to 55: papers, that hold and that do not."""

import copy
import unittest

from failslack.errors import NoCounts, NoFailings, NoStretch
from failslack.orders import does
from failslack.papers import Crowd, Kept, Paper, is_crowd, paper_of
from failslack.pieces import Pieces
from failslack.runs import is_counts, run
from failslack.stretches import is_stretch, longest, need, room, within
from failslack.weighing import is_kept, too_short
from tests.things import (
    all_counts, all_stretches, all_things, is_int, loose_pieces, refusal, small_pieces, thirty_pieces, wide_pieces,
)

ROWS = (("mow", 3, 40, 5, 5), ("hay", 10, 20, 4, 1), ("saw", 10, 30, 5, 2))
NO_FAILINGS = (-1, 301, 302, 10 ** 29, True, False, None, "0", "", [], [0], (), (0,), {}, {0: 0})
NO_STRETCHES = ((5, 3), (0, 200), (201, 200), (-1, 0), (True, 5), (0, False), (0,), (0, 5, 5), [0, 5], None, 0, "", {})


class KeptTest(unittest.TestCase):
    def setUp(self):
        self.pieces = Pieces(ROWS)

    def test_what_it_tells(self):
        paper = Kept(self.pieces, 2)
        self.assertEqual(paper.word(), "kept")
        self.assertIs(paper.holds(), True)
        self.assertEqual(paper.failings(), 2)
        self.assertEqual(paper.told(), ("kept", 2))

    def test_one_that_does_not_hold(self):
        paper = Kept(self.pieces, 3)
        self.assertEqual(paper.word(), "kept")
        self.assertIs(paper.holds(), False)
        self.assertEqual(paper.failings(), 3)
        self.assertEqual(paper.told(), ("kept", 3))

    def test_at_the_bounds(self):
        for failings in (0, 300):
            self.assertEqual(Kept(self.pieces, failings).told(), ("kept", failings))
            self.assertIs(Kept(Pieces([]), failings).holds(), True)
        self.assertIs(Kept(self.pieces, 0).holds(), True)
        self.assertIs(Kept(self.pieces, 300).holds(), False)

    def test_it_holds_just_where_they_are_kept(self):
        for pieces in [*small_pieces(40), *wide_pieces(6), thirty_pieces()]:
            for failings in (0, 1, 2, 4, 5, 300):
                self.assertIs(Kept(pieces, failings).holds(), is_kept(pieces, failings))

    def test_any_thing_as_failings(self):
        for thing in [*NO_FAILINGS, *all_things()]:
            if is_int(thing, 0, 300):
                self.assertEqual(Kept(self.pieces, thing).failings(), thing)
            else:
                self.assertIs(refusal(self, NoFailings, Kept, self.pieces, thing).found, thing)
                self.assertIs(refusal(self, NoFailings, Kept, Pieces([]), thing).found, thing)


class OrderTest(unittest.TestCase):
    def setUp(self):
        self.pieces = Pieces(ROWS)

    def test_the_rows_of_the_run(self):
        paper = Kept(self.pieces, 2)
        for counts in all_counts(self.pieces, 2):
            self.assertEqual(paper.order(counts), run(self.pieces, counts).rows())
            self.assertIs(does(self.pieces, counts, paper.order(counts)), True)

    def test_also_where_it_does_not_hold(self):
        paper = Kept(self.pieces, 300)
        self.assertEqual(paper.order({"hay": 200}), run(self.pieces, {"hay": 200}).rows())
        self.assertEqual(Kept(self.pieces, 200).order({"hay": 200}), paper.order({"hay": 200}))

    def test_counts_that_are_more_than_its_failings(self):
        for failings in (0, 1, 2, 199, 200, 201, 300):
            paper = Kept(self.pieces, failings)
            for counts in (
                {"hay": failings + 1}, {"hay": failings, "mow": 1}, {"saw": 1, "hay": failings - 1, "mow": 1},
            ):
                self.assertIs(refusal(self, NoCounts, paper.order, counts).found, counts)
            if failings <= 200:
                self.assertEqual(len(paper.order({"hay": failings})), 8 + 4 * failings)
        self.assertEqual(Kept(self.pieces, 0).order({"mow": 0, "hay": 0}), run(self.pieces, {}).rows())

    def test_more_than_counts_can_be(self):
        for counts in ({"hay": 201}, {"hay": 200, "mow": 1}, {"hay": 300}):
            self.assertIs(refusal(self, NoCounts, Kept(self.pieces, 300).order, counts).found, counts)

    def test_any_thing(self):
        paper = Kept(self.pieces, 1)
        for thing in all_things():
            before = copy.deepcopy(thing)
            if is_counts(self.pieces, thing) and sum(thing.values()) <= 1:
                self.assertEqual(paper.order(thing), run(self.pieces, thing).rows())
            else:
                self.assertIs(refusal(self, NoCounts, paper.order, thing).found, thing)
            self.assertEqual(thing, before)
        self.assertEqual(Kept(Pieces([]), 300).order({}), [])

    def test_where_it_holds_all_are_done_in_time(self):
        tested = 0
        for pieces in loose_pieces(40):
            for failings in (1, 2):
                paper = Kept(pieces, failings)
                if paper.holds():
                    tested += 1
                    for counts in all_counts(pieces, failings):
                        self.assertIs(does(pieces, counts, paper.order(counts)), True)
        self.assertGreater(tested, 20)

    def test_an_order_that_was_told_and_counts_are_the_askers_own(self):
        paper = Kept(self.pieces, 2)
        counts = {"mow": 1}
        paper.order(counts).clear()
        self.assertEqual(counts, {"mow": 1})
        self.assertEqual(paper.order(counts), run(self.pieces, {"mow": 1}).rows())


class CrowdTest(unittest.TestCase):
    def setUp(self):
        self.pieces = Pieces(ROWS)

    def test_one_that_holds(self):
        paper = Crowd(self.pieces, 3, (10, 20))
        self.assertEqual(paper.word(), "crowd")
        self.assertIs(paper.holds(), True)
        self.assertEqual(paper.failings(), 3)
        self.assertEqual(paper.told(), ("crowd", 3, 10, 20))
        self.assertEqual(paper.stretch(), (10, 20))
        self.assertEqual(paper.names(), ["hay"])
        self.assertEqual(paper.longest(), "hay")
        self.assertEqual(paper.over(), 2)
        self.assertEqual(paper.counts(), {"hay": 3})

    def test_one_that_does_not_hold(self):
        paper = Crowd(self.pieces, 2, (3, 40))
        self.assertEqual(paper.word(), "crowd")
        self.assertIs(paper.holds(), False)
        self.assertEqual(paper.failings(), 2)
        self.assertEqual(paper.told(), ("crowd", 2, 3, 40))
        self.assertEqual(paper.stretch(), (3, 40))
        self.assertEqual(paper.names(), ["mow", "hay", "saw"])
        self.assertEqual(paper.longest(), "mow")
        self.assertEqual(paper.over(), -20)
        self.assertEqual(paper.counts(), {"mow": 2})

    def test_just_as_much_as_there_is(self):
        self.assertEqual(Crowd(Pieces([("a", 5, 9, 2, 1)]), 2, (5, 9)).over(), 0)
        self.assertIs(Crowd(Pieces([("a", 5, 9, 2, 1)]), 2, (5, 9)).holds(), False)
        self.assertIs(Crowd(Pieces([("a", 5, 9, 2, 2)]), 2, (5, 9)).holds(), True)

    def test_nobody_within(self):
        for pieces in (self.pieces, Pieces([])):
            for failings in (0, 3, 300):
                paper = Crowd(pieces, failings, (0, 2))
                self.assertIs(paper.holds(), False)
                self.assertEqual((paper.names(), paper.longest(), paper.over(), paper.counts()), ([], None, -3, {}))
                self.assertEqual(paper.told(), ("crowd", failings, 0, 2))

    def test_without_turns(self):
        for stretch in ((0, -1), (5, 4), (200, 199)):
            paper = Crowd(self.pieces, 3, stretch)
            self.assertIs(paper.holds(), False)
            self.assertEqual((paper.stretch(), paper.over(), paper.counts()), (stretch, 0, {}))
        empty = Crowd(Pieces([("a", 5, 4, 3, 0)]), 1, (5, 4))
        self.assertIs(empty.holds(), True)
        self.assertEqual((empty.names(), empty.longest(), empty.over(), empty.counts()), (["a"], "a", 3, {"a": 1}))

    def test_counts_for_no_failings_and_for_three_hundred(self):
        self.assertEqual(Crowd(self.pieces, 0, (10, 20)).counts(), {})
        self.assertEqual(Crowd(self.pieces, 1, (10, 20)).counts(), {"hay": 1})
        self.assertEqual(Crowd(self.pieces, 200, (10, 20)).counts(), {"hay": 200})
        self.assertEqual(Crowd(self.pieces, 300, (10, 20)).counts(), {"hay": 300})

    def test_the_first_of_several_with_the_greatest_length(self):
        paper = Crowd(self.pieces, 1, (0, 199))
        self.assertEqual((paper.longest(), paper.counts()), ("mow", {"mow": 1}))
        other = Crowd(Pieces(ROWS[::-1]), 1, (0, 199))
        self.assertEqual((other.longest(), other.names()), ("saw", ["saw", "hay", "mow"]))

    def test_all_stretches_of_small_pieces(self):
        for pieces in small_pieces(25):
            for stretch in all_stretches(0, 13):
                for failings in (0, 2):
                    paper = Crowd(pieces, failings, stretch)
                    due = need(pieces, stretch, failings) - room(stretch)
                    far = longest(pieces, stretch)
                    self.assertEqual(paper.over(), due)
                    self.assertIs(paper.holds(), due > 0)
                    self.assertEqual(paper.names(), within(pieces, stretch))
                    self.assertEqual(paper.longest(), far)
                    self.assertEqual(paper.counts(), {far: failings} if far and failings else {})
                    self.assertEqual(paper.stretch(), stretch)

    def test_where_it_holds_they_want_more_turns_than_there_are(self):
        for pieces in small_pieces(25):
            for stretch in all_stretches(0, 13):
                paper = Crowd(pieces, 1, stretch)
                if paper.holds():
                    self.assertNotEqual(run(pieces, paper.counts()).late(), [])

    def test_failings_are_refused_ahead_of_the_stretch(self):
        for failings in NO_FAILINGS:
            for stretch in ((0, 5), *NO_STRETCHES):
                self.assertIs(refusal(self, NoFailings, Crowd, self.pieces, failings, stretch).found, failings)

    def test_what_is_no_stretch(self):
        for failings in (0, 1, 300):
            for stretch in NO_STRETCHES:
                self.assertIs(refusal(self, NoStretch, Crowd, self.pieces, failings, stretch).found, stretch)
                self.assertIs(refusal(self, NoStretch, Crowd, Pieces([]), failings, stretch).found, stretch)

    def test_any_things(self):
        for thing in all_things():
            if is_int(thing, 0, 300):
                self.assertIs(refusal(self, NoStretch, Crowd, self.pieces, thing, thing).found, thing)
                self.assertEqual(Crowd(self.pieces, thing, (10, 20)).failings(), thing)
            else:
                self.assertIs(refusal(self, NoFailings, Crowd, self.pieces, thing, thing).found, thing)
            if is_stretch(thing):
                self.assertEqual(Crowd(self.pieces, 1, thing).stretch(), thing)
            else:
                self.assertIs(refusal(self, NoStretch, Crowd, self.pieces, 1, thing).found, thing)

    def test_what_was_told_is_the_askers_own(self):
        paper = Crowd(self.pieces, 2, (3, 40))
        paper.names().clear()
        paper.counts()["hay"] = 7
        self.assertEqual(paper.names(), ["mow", "hay", "saw"])
        self.assertEqual(paper.counts(), {"mow": 2})


class PaperOfTest(unittest.TestCase):
    def test_the_greatest_number_that_is_kept_and_one_more(self):
        pieces = Pieces(ROWS)
        kept = paper_of(pieces, 2)
        self.assertIs(type(kept), Kept)
        self.assertEqual((kept.told(), kept.holds()), (("kept", 2), True))
        crowd = paper_of(pieces, 3)
        self.assertIs(type(crowd), Crowd)
        self.assertEqual((crowd.told(), crowd.holds()), (("crowd", 3, 10, 20), True))

    def test_it_always_holds_and_never_one_of_the_other_kind(self):
        for pieces in [*small_pieces(60), *loose_pieces(20), *wide_pieces(6), thirty_pieces(), Pieces([])]:
            for failings in (0, 1, 2, 4, 5, 300):
                paper = paper_of(pieces, failings)
                self.assertIs(paper.holds(), True)
                self.assertEqual(paper.failings(), failings)
                stretch = too_short(pieces, failings)
                if stretch is None:
                    self.assertEqual(paper.told(), ("kept", failings))
                    self.assertIs(type(paper), Kept)
                else:
                    self.assertEqual(paper.told(), ("crowd", failings, *stretch))
                    self.assertIs(type(paper), Crowd)
                    self.assertIs(Kept(pieces, failings).holds(), False)

    def test_its_order_is_for_its_own_failings(self):
        paper = paper_of(Pieces(ROWS), 1)
        self.assertEqual(len(paper.order({"hay": 1})), 12)
        refusal(self, NoCounts, paper.order, {"hay": 2})

    def test_any_thing_as_failings(self):
        for pieces in (Pieces(ROWS), Pieces([])):
            for thing in [*NO_FAILINGS, *all_things()]:
                if is_int(thing, 0, 300):
                    self.assertIs(paper_of(pieces, thing).holds(), True)
                else:
                    self.assertIs(refusal(self, NoFailings, paper_of, pieces, thing).found, thing)

    def test_the_same_question_has_an_equal_answer(self):
        for failings in (2, 3):
            self.assertEqual(paper_of(Pieces(ROWS), failings).told(), paper_of(Pieces(list(ROWS)), failings).told())


class IsCrowdTest(unittest.TestCase):
    def setUp(self):
        self.pieces = Pieces(ROWS)

    def test_stretches_that_are_too_short_and_that_are_not(self):
        self.assertIs(is_crowd(self.pieces, 3, (10, 20)), True)
        self.assertIs(is_crowd(self.pieces, 2, (10, 20)), False)
        self.assertIs(is_crowd(self.pieces, 3, (9, 20)), True)
        self.assertIs(is_crowd(self.pieces, 3, (8, 20)), False)
        self.assertIs(is_crowd(self.pieces, 3, (11, 20)), False)
        self.assertIs(is_crowd(self.pieces, 300, (0, 199)), True)
        self.assertIs(is_crowd(self.pieces, 300, (0, 2)), False)
        self.assertIs(is_crowd(Pieces([]), 300, (0, -1)), False)

    def test_each_single_thing_otherwise(self):
        for thing in ([10, 20], (10,), (10, 20, 20), (10, "20"), (None, 20), (10, True), "10 20", {10: 20}, None):
            self.assertIs(is_crowd(self.pieces, 3, thing), False)

    def test_any_thing(self):
        mow = Pieces([("mow", 3, 40, 5)])
        for thing in all_things():
            before = copy.deepcopy(thing)
            self.assertIs(is_crowd(self.pieces, 3, thing), False, thing)
            self.assertIs(is_crowd(mow, 300, thing), thing == (0, 199), thing)
            self.assertEqual(thing, before)

    def test_as_a_paper_of_it_holds(self):
        for pieces in small_pieces(25):
            for stretch in all_stretches(0, 13):
                for failings in (0, 2, 300):
                    self.assertIs(is_crowd(pieces, failings, stretch), Crowd(pieces, failings, stretch).holds())

    def test_what_are_no_failings(self):
        for pieces in (self.pieces, Pieces([])):
            for thing in [*NO_FAILINGS, *all_things()]:
                for stretch in ((10, 20), None, thing):
                    if is_int(thing, 0, 300):
                        is_crowd(pieces, thing, stretch)
                    else:
                        self.assertIs(refusal(self, NoFailings, is_crowd, pieces, thing, stretch).found, thing)


class ClassTest(unittest.TestCase):
    def test_who_stands_under_whom(self):
        self.assertEqual(Kept.__bases__, (Paper,))
        self.assertEqual(Crowd.__bases__, (Paper,))

    def test_each_method_stands_in_its_class(self):
        for kind, names in (
            (Paper, "word holds failings told"), (Kept, "word holds failings told order"),
            (Crowd, "word holds failings told stretch names longest over counts"),
        ):
            for name in names.split():
                self.assertIn(name, vars(kind))

    def test_papers_never_change(self):
        rows = list(ROWS)
        pieces = Pieces(rows)
        kept = Kept(pieces, 2)
        crowd = Crowd(pieces, 3, (10, 20))
        due = (kept.told(), kept.holds(), kept.order({}), crowd.told(), crowd.names(), crowd.over(), crowd.counts())
        rows.clear()
        pieces.with_left("hay", 4).without("mow").since(30)
        for _ in range(2):
            again = (
                kept.told(), kept.holds(), kept.order({}), crowd.told(), crowd.names(), crowd.over(), crowd.counts(),
            )
            self.assertEqual(again, due)
        self.assertEqual(pieces.told(), ROWS)


if __name__ == "__main__":
    unittest.main()
