"""Points 131 to 134: as late as may be."""

import copy
import unittest

from failslack.book import Book
from failslack.errors import NoCounts, NoFailings, NoPiece, NoRest, NotKept, NoTurn, SlackError
from failslack.lazy import eager_and_lazy, first_work, lazily, most_rest
from failslack.orders import does
from failslack.papers import Crowd, Kept
from failslack.pieces import Pieces
from failslack.runs import Run, is_counts, run
from failslack.weighing import is_kept
from tests.plainbook import first_too_short
from tests.things import all_counts, all_things, is_int, loose_pieces, refusal, small_pieces, thirty_pieces, wide_pieces

ROWS = (("mow", 3, 40, 5, 5), ("hay", 10, 20, 4, 1))
NOT_KEPT = Pieces([("a", 5, 4, 1)])


def plain_lazy(rows, failings, counts):
    """The rows and the ends of a lazy run, turn by turn by the words of 132."""
    left = {row[0]: row[4] for row in rows}
    tried = {row[0]: 0 for row in rows}
    undone = [row[0] for row in rows]
    worked = []
    ends = []

    def ends_now(name, turn, failings):
        failed = tried[name] < counts.get(name, 0)
        ends.append((name, tried[name], turn, "failed" if failed else "done"))
        tried[name] += 1
        if failed:
            left[name] = next(row[3] for row in rows if row[0] == name)
            return failings - 1
        undone.remove(name)
        return failings

    for turn in range(-1, 200):
        if turn >= 0:
            standing = [(name, min(max(first, turn + 1), last + 1), last, length, left[name])
                        for name, first, last, length, _ in rows if name in undone]
            if first_too_short(standing, failings) is not None:
                ready = [(last, at, name) for at, (name, first, last, _, _) in enumerate(rows)
                         if name in undone and first <= turn]
                name = min(ready)[2]
                worked.append((turn, name))
                left[name] -= 1
                if left[name] == 0:
                    failings = ends_now(name, turn, failings)
        for name, first, _, _, handed in rows:
            if handed == 0 and first == turn + 1:
                failings = ends_now(name, turn, failings)
    return worked, ends


class RestTest(unittest.TestCase):
    def test_one_piece(self):
        pieces = Pieces([("a", 5, 20, 4)])
        for now, number in ((0, 9), (3, 6), (5, 4), (9, 0)):
            number_told, kept, crowd = most_rest(pieces, 2, now)
            self.assertEqual(number_told, number)
            self.assertEqual((kept.told(), kept.holds()), (("kept", 2), True))
            self.assertEqual((crowd.told(), crowd.holds()), (("crowd", 2, 10, 20), True))
        refusal(self, NotKept, most_rest, pieces, 2, 10)

    def test_up_to_the_end(self):
        for now in (0, 57, 199, 200):
            number, kept, crowd = most_rest(Pieces([]), 300, now)
            self.assertEqual((number, kept.told(), crowd), (200 - now, ("kept", 300), None))
            number, kept, crowd = most_rest(Pieces([("a", 5, 20, 4, 0)]), 0, now)
            self.assertEqual((number, kept.holds(), crowd), (200 - now, True, None))
        self.assertEqual(most_rest(Pieces([("a", 5, 199, 1)]), 0, 0)[0], 199)
        self.assertEqual(most_rest(Pieces([("a", 5, 199, 1)]), 0, 199)[0], 0)
        self.assertEqual(most_rest(Pieces([("a", 5, 199, 1)]), 0, 199)[2].told(), ("crowd", 0, 200, 199))

    def test_against_trying_each_number(self):
        ends = 0
        tested = 0
        for pieces in [*small_pieces(60), *loose_pieces(60), *wide_pieces(6), thirty_pieces(), Pieces(ROWS)]:
            for failings in (0, 1, 2, 4):
                for now in (0, 1, 4, 10, 90, 199, 200):
                    if not is_kept(pieces.since(now), failings):
                        refusal(self, NotKept, most_rest, pieces, failings, now)
                        continue
                    told = most_rest(pieces, failings, now)
                    number = 0
                    while now + number < 200 and is_kept(pieces.since(now + number + 1), failings):
                        number += 1
                    self.looked_at(told, number, pieces, failings, now)
                    ends += told[2] is None
                    tested += 0 < number and told[2] is not None
        self.assertGreater(ends, 20)
        self.assertGreater(tested, 100)

    def looked_at(self, told, number, pieces, failings, now):
        self.assertIs(type(told), tuple)
        self.assertEqual((len(told), told[0]), (3, number))
        self.assertIs(type(told[1]), Kept)
        self.assertEqual((told[1].told(), told[1].holds()), (("kept", failings), True))
        self.assertEqual(told[1].order({}), Kept(pieces.since(now + number), failings).order({}))
        if now + number == 200:
            self.assertIsNone(told[2])
            return
        self.assertIs(type(told[2]), Crowd)
        self.assertEqual((told[2].failings(), told[2].holds()), (failings, True))
        due = Crowd(pieces.since(now + number + 1), failings, told[2].stretch())
        self.assertEqual((told[2].names(), told[2].over()), (due.names(), due.over()))

    def test_refusals(self):
        pieces = Pieces(ROWS)
        for thing in [-1, 201, 301, *all_things()]:
            if not is_int(thing, 0, 300):
                for now in (0, 201, None):
                    self.assertIs(refusal(self, NoFailings, most_rest, pieces, thing, now).found, thing)
                    self.assertIs(refusal(self, NoFailings, most_rest, NOT_KEPT, thing, now).found, thing)
            if not is_int(thing, 0, 200):
                for failings in (0, 300):
                    self.assertIs(refusal(self, NoTurn, most_rest, pieces, failings, thing).found, thing)
                    self.assertIs(refusal(self, NoTurn, most_rest, NOT_KEPT, failings, thing).found, thing)
        for failings, now in ((3, 0), (300, 0), (2, 40), (0, 41)):
            refusal(self, NotKept, most_rest, pieces, failings, now)
        refusal(self, NotKept, most_rest, NOT_KEPT, 0, 200)

    def test_a_book_may_be_rested_just_as_long(self):
        for failings in (0, 1, 2):
            book = Book(failings)
            for row in ROWS:
                book.ask(*row[:4])
            for _ in range(6):
                book.work()
            many = most_rest(book.pieces(), book.failings_left(), book.now())[0]
            for _ in range(many):
                book.rest()
            refusal(self, NoRest, book.rest)


class LazyTest(unittest.TestCase):
    def test_one_piece(self):
        told = lazily(Pieces([("a", 5, 20, 4)]), 2, {"a": 1})
        self.assertIs(type(told), Run)
        # Behind the first failing one try of four turns may still fail, so work is wanted from turn 13 on at once.
        self.assertEqual(told.rows(), [(turn, "a") for turn in (9, 10, 11, 12, 13, 14, 15, 16)])
        self.assertEqual(told.ends(), [("a", 0, 12, "failed"), ("a", 1, 16, "done")])
        self.assertEqual((told.done_turn("a"), told.late(), told.fell()), (16, [], {"a": 1}))

    def test_it_rests_again_behind_a_try_that_ended_well(self):
        told = lazily(Pieces([("a", 0, 9, 2), ("b", 0, 30, 3)]), 1, {})
        self.assertEqual(told.rows(), [(6, "a"), (7, "a"), (25, "b"), (26, "b"), (27, "b")])
        self.assertEqual(told.ends(), [("a", 0, 7, "done"), ("b", 0, 27, "done")])

    def test_no_pieces(self):
        for failings in (0, 200):
            told = lazily(Pieces([]), failings, {})
            self.assertEqual((told.rows(), told.ends(), told.late(), told.fell()), ([], [], [], {}))

    def test_pieces_with_nothing_left_as_they_are_handed_in(self):
        pieces = Pieces([("a", 5, 20, 4, 0), ("b", 0, 9, 2, 0), ("c", 5, 30, 1, 0)])
        told = lazily(pieces, 1, {})
        self.assertEqual(told.rows(), [])
        self.assertEqual(told.ends(), [("b", 0, -1, "done"), ("a", 0, 4, "done"), ("c", 0, 4, "done")])
        told = lazily(pieces, 1, {"a": 1})
        self.assertEqual(told.rows(), [(17, "a"), (18, "a"), (19, "a"), (20, "a")])
        self.assertEqual(told.ends(), [("b", 0, -1, "done"), ("a", 0, 4, "failed"), ("c", 0, 4, "done"),
                                       ("a", 1, 20, "done")])
        told = lazily(pieces, 1, {"b": 1})
        self.assertEqual(told.rows(), [(8, "b"), (9, "b")])
        self.assertEqual(told.ends(), [("b", 0, -1, "failed"), ("a", 0, 4, "done"), ("c", 0, 4, "done"),
                                       ("b", 1, 9, "done")])

    def test_empty_windows_with_nothing_left(self):
        pieces = Pieces([("a", 200, 199, 4, 0), ("b", 5, 4, 2, 0), ("c", 1, 0, 2, 0)])
        self.assertEqual(lazily(pieces, 0, {}).ends(), [("c", 0, 0, "done"), ("b", 0, 4, "done"), ("a", 0, 199, "done")])
        self.assertEqual(lazily(pieces, 0, {}).late(), [])

    def test_up_to_the_last_turn(self):
        self.assertEqual(lazily(Pieces([("a", 0, 199, 2)]), 0, {}).rows(), [(198, "a"), (199, "a")])
        told = lazily(Pieces([("a", 0, 199, 1, 0)]), 200, {"a": 200})
        self.assertEqual(told.rows(), [(turn, "a") for turn in range(200)])
        self.assertEqual((told.done_turn("a"), told.fell()), (199, {"a": 200}))

    def test_against_going_through_turn_by_turn(self):
        tested = 0
        for pieces in [*small_pieces(60), *loose_pieces(60)]:
            for failings in (0, 1, 2, 3):
                if not is_kept(pieces, failings):
                    continue
                for counts in all_counts(pieces, failings)[::1 + failings * 2]:
                    told = lazily(pieces, failings, counts)
                    worked, ends = plain_lazy(pieces.told(), failings, counts)
                    self.assertEqual((told.rows(), told.ends()), (worked, ends), (pieces.told(), failings, counts))
                    self.assertEqual(told.fell(), {name: many for name, many in counts.items() if many})
                    self.assertEqual(told.late(), [])
                    self.assertIs(does(pieces, counts, told.rows()), True)
                    tested += failings > 0 and len(pieces.names()) > 1
        self.assertGreater(tested, 100)

    def test_thirty_pieces(self):
        pieces = thirty_pieces()
        for counts in ({}, {"q5": 4}, {"q0": 1, "q12": 2, "q29": 1}):
            told = lazily(pieces, 4, counts)
            worked, ends = plain_lazy(pieces.told(), 4, counts)
            self.assertEqual((told.rows(), told.ends(), told.late()), (worked, ends, []))

    def test_it_is_a_run_of_which_all_is_told(self):
        told = lazily(Pieces(ROWS), 2, {"hay": 1})
        told.rows().clear()
        told.ends().clear()
        told.fell().clear()
        self.assertEqual(told.fell(), {"hay": 1})
        self.assertEqual(len(told.ends()), 3)
        for thing in all_things():
            if thing != "mow":
                self.assertIs(refusal(self, NoPiece, told.done_turn, thing).found, thing)

    def test_counts_that_are_changed_afterwards(self):
        counts = {"hay": 1}
        told = lazily(Pieces(ROWS), 2, counts)
        before = (told.rows(), told.ends())
        counts["hay"] = 2
        self.assertEqual((told.rows(), told.ends(), told.fell()), (*before, {"hay": 1}))


class RefusalTest(unittest.TestCase):
    def test_any_thing_as_failings(self):
        for thing in [-1, 201, 300, *all_things()]:
            if not is_int(thing, 0, 200):
                for call in (lazily, eager_and_lazy, first_work):
                    for pieces in (Pieces(ROWS), NOT_KEPT):
                        for other in ({}, "mow", None):
                            self.assertIs(refusal(self, NoFailings, call, pieces, thing, other).found, thing)

    def test_pieces_that_are_not_kept(self):
        for call in (lazily, eager_and_lazy, first_work):
            for other in ({}, {"a": 1}, "a", "mow", None, []):
                refusal(self, NotKept, call, NOT_KEPT, 0, other)
                refusal(self, NotKept, call, Pieces(ROWS), 3, other)
                refusal(self, NotKept, call, Pieces(ROWS), 200, other)

    def test_any_thing_as_counts(self):
        pieces = Pieces(ROWS)
        for thing in [{"mow": 3}, {"mow": 2, "hay": 1}, {"oil": 0}, *all_things()]:
            for call in (lazily, eager_and_lazy):
                if is_counts(pieces, thing) and sum(thing.values()) <= 2:
                    call(pieces, 2, thing)
                else:
                    self.assertIs(refusal(self, NoCounts, call, pieces, 2, thing).found, thing)

    def test_counts_that_are_together_more_than_the_failings(self):
        pieces = Pieces(ROWS)
        for call in (lazily, eager_and_lazy):
            for failings in (0, 1, 2):
                counts = {"hay": failings, "mow": 1}
                self.assertIs(refusal(self, NoCounts, call, pieces, failings, counts).found, counts)
                call(pieces, failings, {"hay": failings, "mow": 0})

    def test_any_thing_as_a_name(self):
        for thing in [{}, "oil", *all_things()]:
            if thing != "mow":
                self.assertIs(refusal(self, NoPiece, first_work, Pieces(ROWS), 2, thing).found, thing)
                self.assertIs(refusal(self, NoPiece, first_work, Pieces([]), 2, thing).found, thing)

    def test_what_is_handed_in_is_not_changed(self):
        for thing in all_things():
            before = copy.deepcopy(thing)
            for call in (lazily, eager_and_lazy, first_work, most_rest):
                for handed in ((thing, {}), (2, thing)):
                    try:
                        call(Pieces(ROWS), *handed)
                    except SlackError:
                        pass
            self.assertEqual(thing, before)


class FirstTest(unittest.TestCase):
    def test_first_turns_of_work(self):
        self.assertEqual(first_work(Pieces([("a", 5, 20, 4)]), 2, "a"), 9)
        pieces = Pieces([("a", 0, 9, 2), ("b", 0, 30, 3)])
        self.assertEqual([first_work(pieces, 1, name) for name in ("a", "b")], [6, 25])
        self.assertEqual([first_work(pieces, 0, name) for name in ("a", "b")], [8, 28])

    def test_nothing_left(self):
        pieces = Pieces([("a", 5, 20, 4, 0), ("b", 0, 9, 2, 1)])
        self.assertIsNone(first_work(pieces, 1, "a"))
        self.assertEqual(first_work(pieces, 1, "b"), 7)

    def test_all_sorts(self):
        nothing = 0
        for pieces in [*small_pieces(60), *loose_pieces(60)]:
            for failings in (0, 1, 2):
                if is_kept(pieces, failings):
                    worked, _ = plain_lazy(pieces.told(), failings, {})
                    for name in pieces.names():
                        due = next((turn for turn, other in worked if other == name), None)
                        self.assertEqual(first_work(pieces, failings, name), due)
                        self.assertEqual(due is None, pieces.row(name)[4] == 0)
                        nothing += due is None
        self.assertGreater(nothing, 10)


class BesideTest(unittest.TestCase):
    def test_both_turns(self):
        told = eager_and_lazy(Pieces([("b", 0, 30, 3), ("a", 0, 9, 2)]), 1, {})
        self.assertEqual(list(told.items()), [("b", (4, 27)), ("a", (1, 7))])
        told = eager_and_lazy(Pieces([("b", 0, 30, 3), ("a", 0, 9, 2)]), 1, {"a": 1})
        self.assertEqual(list(told.items()), [("b", (6, 30)), ("a", (3, 9))])
        self.assertEqual(eager_and_lazy(Pieces([("a", 0, 9, 2, 0)]), 1, {}), {"a": (-1, -1)})
        self.assertEqual(eager_and_lazy(Pieces([]), 1, {}), {})

    def test_all_sorts(self):
        less = 0
        for pieces in [*small_pieces(60), *loose_pieces(60), thirty_pieces()]:
            for failings in (0, 1, 2):
                if not is_kept(pieces, failings):
                    continue
                for counts in all_counts(pieces, failings)[:40] if len(pieces.names()) < 9 else [{"q3": failings}]:
                    told = eager_and_lazy(pieces, failings, counts)
                    self.assertEqual(list(told), pieces.names())
                    early = run(pieces, counts)
                    late = lazily(pieces, failings, counts)
                    for name, turns in told.items():
                        self.assertEqual(turns, (early.done_turn(name), late.done_turn(name)))
                        self.assertLessEqual(turns[0], turns[1])
                        self.assertLessEqual(turns[1], pieces.row(name)[2])
                        less += turns[0] < turns[1]
        self.assertGreater(less, 100)

    def test_a_dict_that_was_told_is_the_askers_own(self):
        pieces = Pieces(ROWS)
        eager_and_lazy(pieces, 2, {}).clear()
        self.assertEqual(list(eager_and_lazy(pieces, 2, {})), ["mow", "hay"])

    def test_the_same_question_has_an_equal_answer(self):
        one = Pieces(ROWS)
        two = Pieces(list(ROWS))
        for other in (one, two):
            self.assertEqual(eager_and_lazy(other, 2, {"hay": 1}), eager_and_lazy(one, 2, {"hay": 1}))
            self.assertEqual(lazily(other, 2, {"hay": 1}).ends(), lazily(one, 2, {"hay": 1}).ends())
            self.assertEqual(first_work(other, 2, "hay"), first_work(one, 2, "hay"))
            self.assertEqual(most_rest(other, 2, 1)[0], most_rest(one, 2, 1)[0])
            self.assertEqual(most_rest(other, 2, 1)[2].told(), most_rest(one, 2, 1)[2].told())
        self.assertEqual(one.told(), ROWS)


if __name__ == "__main__":
    unittest.main()
