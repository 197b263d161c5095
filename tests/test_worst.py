"""Points 71 to 75: how late each piece may come to be done."""

import copy
import unittest

from failslack.errors import NoFailings, NoPiece
from failslack.pieces import Pieces
from failslack.runs import is_counts, run
from failslack.weighing import is_kept
from failslack.worst import ahead_of, chain, is_worst, worst, worst_turns
from tests.things import (
    all_counts, all_things, is_int, loose_pieces, refusal, small_pieces, thirty_pieces, wide_pieces,
)

ROWS = (("mow", 3, 40, 5, 5), ("hay", 10, 20, 4, 1), ("saw", 10, 30, 5, 0))
NO_FAILINGS = (-1, 201, 202, 300, 10 ** 29, True, False, None, "0", "", [], [0], (), (0,), {}, {0: 0})


def gone_through(pieces, failings):
    """The greatest turn in which each piece is done, of all counts."""
    runs = [run(pieces, counts) for counts in all_counts(pieces, failings)]
    return {name: max(told.done_turn(name) for told in runs) for name in pieces.names()}


def counting_rows(pieces, name):
    """The rows of those that count, by the words of 71 and 73."""
    own = pieces.row(name)
    place = pieces.names().index(name)
    return [row for at, row in enumerate(pieces.told())
            if row[2] < own[2] or (row[2] == own[2] and at <= place)]


def coming_in(rows, start, end):
    return [row for row in rows if row[1] == start or start < row[1] < end]


def least_end(rows, wanted, start, low):
    """The least end, not below low, at which just as many turns are wanted as lie from the start to ahead of it."""
    end = low
    while sum(wanted[row[0]] for row in coming_in(rows, start, end)) != end - start:
        end += 1
    return end


class AheadTest(unittest.TestCase):
    def test_lesser_last_turns(self):
        pieces = Pieces([("a", 0, 30, 1), ("b", 0, 20, 1), ("c", 25, 40, 1), ("d", 9, 8, 1, 0)])
        self.assertEqual(ahead_of(pieces, "a"), ["b", "d"])
        self.assertEqual(ahead_of(pieces, "b"), ["d"])
        self.assertEqual(ahead_of(pieces, "c"), ["a", "b", "d"])
        self.assertEqual(ahead_of(pieces, "d"), [])

    def test_equal_last_turns(self):
        pieces = Pieces([("c", 0, 9, 1), ("a", 5, 9, 1), ("z", 0, 8, 1), ("b", 0, 9, 1)])
        self.assertEqual(ahead_of(pieces, "c"), ["z"])
        self.assertEqual(ahead_of(pieces, "a"), ["c", "z"])
        self.assertEqual(ahead_of(pieces, "b"), ["c", "a", "z"])
        self.assertEqual(ahead_of(pieces, "z"), [])

    def test_all_sorts_of_pieces(self):
        for pieces in [*small_pieces(40), *wide_pieces(5), thirty_pieces()]:
            for name in pieces.names():
                due = [row[0] for row in counting_rows(pieces, name) if row[0] != name]
                self.assertEqual(ahead_of(pieces, name), due)

    def test_only_these_decide(self):
        for pieces in small_pieces(40):
            for counts in all_counts(pieces, 1):
                for name in pieces.names():
                    alone = Pieces(counting_rows(pieces, name))
                    few = {who: many for who, many in counts.items() if alone.has(who)}
                    self.assertEqual(run(alone, few).done_turn(name), run(pieces, counts).done_turn(name))

    def test_any_thing_as_a_name(self):
        for thing in all_things():
            if thing == "mow":
                self.assertEqual(ahead_of(Pieces(ROWS), thing), ["hay", "saw"])
            else:
                self.assertIs(refusal(self, NoPiece, ahead_of, Pieces(ROWS), thing).found, thing)
            self.assertIs(refusal(self, NoPiece, ahead_of, Pieces([]), thing).found, thing)

    def test_a_list_that_was_told_is_the_askers_own(self):
        pieces = Pieces(ROWS)
        ahead_of(pieces, "mow").clear()
        self.assertEqual(ahead_of(pieces, "mow"), ["hay", "saw"])


class WorstTest(unittest.TestCase):
    def checked(self, pieces, failings, name):
        """The worst turn, whose counts bring the piece there."""
        told = worst(pieces, failings, name)
        self.assertIs(type(told), tuple)
        turn, counts = told
        self.assertIs(is_counts(pieces, counts), True)
        self.assertLessEqual(sum(counts.values()), failings)
        self.assertEqual(list(counts), [who for who in pieces.names() if who in counts])
        self.assertEqual(run(pieces, counts).done_turn(name), turn)
        self.assertIs(is_worst(pieces, failings, name, counts), True)
        return turn

    def test_one_piece(self):
        one = Pieces([("a", 5, 30, 4, 2)])
        for failings, turn in ((0, 6), (1, 10), (2, 14), (200, 806)):
            self.assertEqual(self.checked(one, failings, "a"), turn)
            self.assertEqual(worst(one, failings, "a"), (turn, {"a": failings} if failings else {}))
            self.assertEqual(worst_turns(one, failings), {"a": turn})

    def test_nothing_left(self):
        for first in (0, 7, 200):
            one = Pieces([("a", first, max(first - 1, 0), 4, 0)])
            self.assertEqual(worst(one, 0, "a"), (first - 1, {}))
            self.assertEqual(worst(one, 1, "a"), (first + 3, {"a": 1}))
            self.assertEqual(worst(one, 200, "a"), (first + 799, {"a": 200}))
            self.assertEqual(chain(one, 0, "a"), (first, []))
            self.assertEqual(chain(one, 1, "a"), (first, [(first + 4, "a")]))
            self.assertEqual(chain(one, 2, "a"), (first, [(first + 4, "a"), (first + 8, "a")]))

    def test_another_one_fails_more_badly(self):
        pieces = Pieces([("a", 2, 30, 2), ("b", 0, 20, 5), ("c", 0, 40, 9)])
        self.assertEqual(worst(pieces, 0, "a"), (6, {}))
        self.assertEqual(worst(pieces, 2, "a"), (16, {"b": 2}))
        self.assertEqual(worst(pieces, 2, "b"), (14, {"b": 2}))
        self.assertEqual(worst_turns(pieces, 2), {"a": 16, "b": 14, "c": 33})

    def test_one_that_comes_in_only_behind_a_failing(self):
        # Only where b fails once, c comes in ahead of the end, and is longer.
        pieces = Pieces([("a", 0, 90, 1), ("b", 0, 50, 3), ("c", 5, 60, 9, 0)])
        self.assertEqual(chain(pieces, 0, "a"), (0, [(4, None)]))
        self.assertEqual(chain(pieces, 2, "a"), (0, [(4, None), (7, "b"), (16, "c")]))
        self.assertEqual(worst(pieces, 2, "a"), (15, {"b": 1, "c": 1}))

    def test_a_busy_time_that_ends_ahead_of_the_piece_does_not_count(self):
        pieces = Pieces([("b", 0, 9, 9), ("a", 9, 30, 2)])
        self.assertEqual(worst(pieces, 0, "a"), (10, {}))
        self.assertEqual(chain(pieces, 0, "a"), (9, [(11, None)]))
        self.assertEqual(worst(pieces, 1, "a"), (19, {"b": 1}))
        self.assertEqual(chain(pieces, 1, "a"), (0, [(9, None), (20, "b")]))

    def test_against_all_counts(self):
        for pieces in [*small_pieces(80), *loose_pieces(40)]:
            for failings in (0, 1, 2, 3):
                due = gone_through(pieces, failings)
                told = worst_turns(pieces, failings)
                self.assertEqual(list(told.items()), list(due.items()), (pieces.told(), failings))
                for name in pieces.names():
                    self.assertEqual(self.checked(pieces, failings, name), due[name])

    def test_wide_pieces(self):
        for pieces in [*wide_pieces(4), thirty_pieces()]:
            for failings in (0, 3, 200):
                told = worst_turns(pieces, failings)
                self.assertEqual(list(told), pieces.names())
                for name in pieces.names():
                    self.assertEqual(self.checked(pieces, failings, name), told[name])

    def test_no_pieces(self):
        for failings in (0, 200):
            self.assertEqual(worst_turns(Pieces([]), failings), {})

    def test_kept_just_where_no_worst_turn_is_behind_a_last_turn(self):
        kept = []
        for pieces in [*small_pieces(80), *loose_pieces(60), *wide_pieces(8), thirty_pieces()]:
            for failings in (0, 1, 2, 4, 5, 200):
                told = worst_turns(pieces, failings)
                due = all(told[row[0]] <= row[2] for row in pieces.told())
                self.assertIs(is_kept(pieces, failings), due, (pieces.told(), failings))
                kept.append(due)
        self.assertGreater(kept.count(True), 50)
        self.assertGreater(kept.count(False), 50)

    def test_names_change_no_number(self):
        for pieces in small_pieces(30):
            others = Pieces([(f"x{at}", *row[1:]) for at, row in enumerate(pieces.told())])
            self.assertEqual(list(worst_turns(others, 2).values()), list(worst_turns(pieces, 2).values()))


class ChainTest(unittest.TestCase):
    def walked(self, pieces, failings, name):
        """A chain is walked by the words of 73, and its last end compared with that from each other start."""
        told = chain(pieces, failings, name)
        self.assertIs(type(told), tuple)
        start, steps = told
        self.assertIs(type(steps), list)
        own = pieces.row(name)
        rows = counting_rows(pieces, name)
        wanted = {row[0]: row[4] for row in rows}
        if own[4] == 0 and failings == 0:
            self.assertEqual(told, (own[1], []))
            return
        if own[4] == 0:
            wanted[name] = own[3]
        starts = [row[1] for row in rows if row[1] <= own[1]]
        self.assertIn(start, starts)
        self.assertEqual(len(steps), failings + 1 - (own[4] == 0))
        self.assertEqual(steps[0], (least_end(rows, wanted, start, start), name if own[4] == 0 else None))
        self.step_by_step(rows, dict(wanted), start, steps)
        self.assertGreater(steps[-1][0], own[1])
        self.assertEqual(worst(pieces, failings, name)[0], steps[-1][0] - 1)
        for other in starts:
            self.assertLessEqual(self.far_end(rows, dict(wanted), other, len(steps) - 1, own), steps[-1][0])

    def step_by_step(self, rows, wanted, start, steps):
        for (before, _), (end, who) in zip(steps, steps[1:]):
            there = {row[0]: row[3] for row in coming_in(rows, start, before)}
            self.assertEqual(there[who], max(there.values()))
            wanted[who] += there[who]
            self.assertEqual(end, least_end(rows, wanted, start, before))

    def far_end(self, rows, wanted, start, failings, own):
        end = least_end(rows, wanted, start, start)
        for _ in range(failings):
            far = max(coming_in(rows, start, end), key=lambda row: row[3])
            wanted[far[0]] += far[3]
            end = least_end(rows, wanted, start, end)
        return end if end > own[1] else 0

    def test_small_and_loose_pieces(self):
        for pieces in [*small_pieces(60), *loose_pieces(40)]:
            for failings in (0, 1, 2, 3):
                for name in pieces.names():
                    self.walked(pieces, failings, name)

    def test_wide_pieces(self):
        for pieces in [*wide_pieces(3), thirty_pieces()]:
            for name in pieces.names()[::5]:
                for failings in (0, 4):
                    self.walked(pieces, failings, name)

    def test_two_hundred_failings(self):
        pieces = loose_pieces(5)[0]
        for name in pieces.names():
            self.walked(pieces, 200, name)

    def test_lists_and_dicts_that_were_told_are_the_askers_own(self):
        pieces = Pieces(ROWS)
        due = copy.deepcopy((chain(pieces, 2, "mow"), worst(pieces, 2, "mow"), worst_turns(pieces, 2)))
        chain(pieces, 2, "mow")[1].clear()
        worst(pieces, 2, "mow")[1]["cow"] = 7
        worst_turns(pieces, 2).clear()
        self.assertEqual((chain(pieces, 2, "mow"), worst(pieces, 2, "mow"), worst_turns(pieces, 2)), due)
        chain(Pieces(ROWS), 0, "saw")[1].append((9, None))
        self.assertEqual(chain(Pieces(ROWS), 0, "saw"), (10, []))
        self.assertEqual(pieces.told(), ROWS)

    def test_the_same_question_has_an_equal_answer(self):
        for call in (chain, worst):
            for name in ("mow", "hay", "saw"):
                self.assertEqual(call(Pieces(ROWS), 2, name), call(Pieces(list(ROWS)), 2, name))


class RefusalTest(unittest.TestCase):
    def setUp(self):
        self.pieces = Pieces(ROWS)

    def test_failings_go_ahead_of_the_name(self):
        for call in (worst, chain):
            for thing in [*NO_FAILINGS, *all_things()]:
                for name in ("mow", "cow", thing):
                    if not is_int(thing, 0, 200):
                        self.assertIs(refusal(self, NoFailings, call, self.pieces, thing, name).found, thing)
                        self.assertIs(refusal(self, NoFailings, call, Pieces([]), thing, name).found, thing)

    def test_any_thing_as_a_name(self):
        for call in (worst, chain):
            for failings in (0, 1, 200):
                for thing in [thing for thing in all_things() if thing != "mow"]:
                    self.assertIs(refusal(self, NoPiece, call, self.pieces, failings, thing).found, thing)
                    self.assertIs(refusal(self, NoPiece, call, Pieces([]), failings, thing).found, thing)

    def test_failings_of_all_turns(self):
        for thing in [*NO_FAILINGS, *all_things()]:
            if is_int(thing, 0, 200):
                self.assertEqual(list(worst_turns(self.pieces, thing)), ["mow", "hay", "saw"])
            else:
                self.assertIs(refusal(self, NoFailings, worst_turns, self.pieces, thing).found, thing)
                self.assertIs(refusal(self, NoFailings, worst_turns, Pieces([]), thing).found, thing)


class IsWorstTest(unittest.TestCase):
    def setUp(self):
        self.pieces = Pieces([("a", 2, 30, 2), ("b", 0, 20, 5), ("c", 0, 40, 9)])

    def tells(self, due, failings, name, counts):
        before = copy.deepcopy((failings, name, counts))
        self.assertIs(is_worst(self.pieces, failings, name, counts), due, before)
        self.assertEqual((failings, name, counts), before)

    def test_counts_that_are_worst_and_that_are_not(self):
        self.tells(True, 2, "a", {"b": 2})
        self.tells(True, 2, "a", {"c": 0, "b": 2, "a": 0})
        self.tells(False, 2, "a", {"b": 1})
        self.tells(False, 2, "a", {"b": 1, "a": 1})
        self.tells(False, 2, "a", {"c": 2})
        self.tells(False, 2, "a", {})
        self.tells(True, 0, "a", {})
        self.tells(True, 0, "a", {"a": 0})

    def test_too_many_together(self):
        self.tells(False, 2, "a", {"b": 3})
        self.tells(False, 2, "a", {"b": 2, "c": 1})
        self.tells(False, 0, "a", {"b": 1})
        self.tells(True, 3, "a", {"b": 3})
        self.tells(False, 200, "c", {"c": 201})
        self.tells(True, 200, "c", {"c": 200})

    def test_fewer_than_all_may_do_where_these_are_not_needed(self):
        pieces = Pieces([("a", 5, 9, 1, 0)])
        self.assertIs(is_worst(pieces, 0, "a", {}), True)
        self.assertIs(is_worst(pieces, 1, "a", {}), False)
        self.assertIs(is_worst(pieces, 1, "a", {"a": 1}), True)

    def test_what_are_no_failings_names_and_counts(self):
        for failings in (-1, 201, 300, True, False, None, "2", [2], (2,), {}):
            self.tells(False, failings, "a", {"b": 2})
            self.tells(False, failings, "a", {})
        for name in ("d", "A", "", None, 0, True, ["a"], ("a",), {"a": 1}):
            self.tells(False, 2, name, {"b": 2})
        for counts in ({"b": True}, {"b": 2, "d": 0}, {"b": 2, 1: 0}, [("b", 2)], None, 2, "b", {"b": "2"}, {"b": -1}):
            self.tells(False, 2, "a", counts)

    def test_any_things(self):
        for thing in all_things():
            self.tells(False, thing, thing, thing)
            self.tells(False, thing, "d", thing)
            self.tells(type(thing) is int and thing == 1, thing, "a", {"b": 1})
            self.tells(thing == "a", 2, thing, {"b": 2})
            self.tells(False, 2, "a", thing)
            self.assertIs(is_worst(Pieces([]), 0, thing, {}), False)
            self.assertIs(is_worst(Pieces([]), thing, thing, thing), False)

    def test_all_counts_of_small_pieces(self):
        for pieces in small_pieces(30):
            for failings in (0, 2):
                due = gone_through(pieces, failings)
                for counts in all_counts(pieces, 3):
                    told = run(pieces, counts)
                    for name in pieces.names():
                        right = sum(counts.values()) <= failings and told.done_turn(name) == due[name]
                        self.assertIs(is_worst(pieces, failings, name, counts), right)


if __name__ == "__main__":
    unittest.main()
