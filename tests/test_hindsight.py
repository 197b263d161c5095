"""Points 91 to 95: what would have let a refused piece in."""

import copy
import random
import unittest

from failslack.bearing import borne
from failslack.errors import BadPieces, NoFailings, NoTurn, NotRefused, SlackError
from failslack.hindsight import earlier_start, fewer, instead_of, later_end
from failslack.papers import Crowd, Kept
from failslack.pieces import Pieces
from failslack.weighing import is_kept
from tests.things import all_things, is_int, loose_pieces, pieces_by, refusal, small_pieces, thirty_pieces

ROWS = (("mow", 3, 40, 5, 5), ("hay", 10, 20, 4, 1))
FOUR = (later_end, earlier_start, fewer, instead_of)


def refused_rows(many):
    """Kept pieces, failings, and a row with which they are not kept, so many of them."""
    chance = random.Random(many)
    told = []
    for pieces in [*small_pieces(many), *loose_pieces(many)]:
        for _ in range(6):
            first = chance.randint(0, 16)
            length = chance.randint(1, 4)
            row = ("new", first, first + chance.randint(-1, 8) if first else chance.randint(0, 8), length,
                   chance.randint(0, length))
            failings = chance.randint(0, 3)
            if is_kept(pieces, failings) and not is_kept(pieces.with_row(row), failings):
                told.append((pieces, failings, row))
    return told


def with_last(row, last):
    return (row[0], row[1], last, *row[3:])


def with_first(row, first):
    return (row[0], first, *row[2:])


class RefusalTest(unittest.TestCase):
    def setUp(self):
        self.pieces = Pieces(ROWS)

    def bad(self, at, why, call, *handed):
        error = refusal(self, BadPieces, call, *handed)
        self.assertEqual((error.at, error.why), (at, why), handed)

    def test_any_thing_as_failings(self):
        row = ("oil", 10, 10, 5)
        for thing in [-1, 301, *all_things()]:
            if not is_int(thing, 0, 300):
                for call in FOUR:
                    for other in (row, None, ROWS[0]):
                        self.assertIs(refusal(self, NoFailings, call, self.pieces, thing, other).found, thing)
                self.assertIs(refusal(self, NoFailings, earlier_start, self.pieces, thing, row, 201).found, thing)

    def test_failings_at_the_bounds(self):
        row = ("oil", 10, 10, 5)
        for call in FOUR:
            call(self.pieces, 0, row)
        empty = Pieces([])
        self.assertEqual(fewer(empty, 300, ("oil", 0, 199, 1)), 199)
        self.assertEqual(instead_of(empty, 300, ("oil", 0, 199, 1)), [])
        self.assertIsNone(later_end(empty, 300, ("oil", 0, 199, 1)))
        self.assertIsNone(earlier_start(empty, 300, ("oil", 0, 199, 1)))

    def test_any_thing_as_now(self):
        row = ("oil", 10, 10, 5)
        for thing in [-1, 201, *all_things()]:
            if is_int(thing, 0, 200):
                earlier_start(self.pieces, 0, row, thing)
            else:
                for other in (row, None, ROWS[0], ("oil", 0, 199, 1)):
                    self.assertIs(refusal(self, NoTurn, earlier_start, self.pieces, 0, other, thing).found, thing)
                with self.assertRaises(NoTurn):
                    earlier_start(self.pieces, 0, row, now=thing)

    def test_any_thing_as_a_row(self):
        for thing in all_things():
            try:
                self.pieces.with_row(thing)
            except BadPieces as due:
                for call in FOUR:
                    self.bad(due.at, due.why, call, self.pieces, 1, thing)
                self.bad(due.at, due.why, earlier_start, self.pieces, 1, thing, 200)
                # Rows are refused ahead of pieces that are not kept.
                for call in FOUR:
                    self.bad(due.at, due.why, call, self.pieces, 300, thing)

    def test_each_word_of_a_row(self):
        for row, why in (
            (["oil", 1, 2, 3], "form"), (("oil", 1, 2), "form"), (("oil", 1, 2, 3, 3, 3), "form"),
            (("Oil", 1, 2, 3), "name"), (("mow", 1, 2, 3), "double"), (("oil", 201, 2, 3), "first"),
            (("oil", 1, 200, 3), "last"), (("oil", 3, 1, 3), "last"), (("oil", 1, 2, 13), "length"),
            (("oil", 1, 2, 3, 4), "left"),
        ):
            for call in FOUR:
                self.bad(2, why, call, self.pieces, 1, row)

    def test_thirty_pieces_and_one_more(self):
        for call in FOUR:
            self.bad(30, "many", call, thirty_pieces(), 1, ("oil", 1, 1, 12))

    def test_a_row_that_is_let_in(self):
        for call in FOUR:
            refusal(self, NotRefused, call, self.pieces, 1, ("oil", 50, 99, 1))
            refusal(self, NotRefused, call, Pieces([]), 0, ("oil", 5, 4, 1, 0))

    def test_pieces_that_are_not_kept_without_it(self):
        for call in FOUR:
            refusal(self, NotRefused, call, self.pieces, 3, ("oil", 50, 99, 1))
            refusal(self, NotRefused, call, self.pieces, 3, ("oil", 50, 50, 12))

    def test_just_where_it_is_due(self):
        seen = []
        chance = random.Random(1)
        for pieces in small_pieces(80):
            row = pieces_by(chance, 1, 12, 4).told() or (("p0", 2, 5, 2, 1),)
            row = ("new", *row[0][1:])
            for failings in (0, 1, 2):
                without = is_kept(pieces, failings)
                together = is_kept(pieces.with_row(row), failings)
                seen.append((without, together))
                for call in FOUR:
                    if without and not together:
                        call(pieces, failings, row)
                    else:
                        refusal(self, NotRefused, call, pieces, failings, row)
        self.assertEqual(set(seen), {(True, True), (True, False), (False, False)})


class Papered(unittest.TestCase):
    def papers(self, told, kept, crowd, failings):
        self.assertIs(type(told), tuple)
        self.assertEqual(len(told), 3)
        self.assertIs(type(told[1]), Kept)
        self.assertIs(type(told[2]), Crowd)
        self.assertEqual((told[1].told(), told[1].holds()), (("kept", failings), True))
        self.assertEqual((told[2].failings(), told[2].holds()), (failings, True))
        self.assertIs(Crowd(crowd, failings, told[2].stretch()).holds(), True)
        self.assertEqual(Crowd(crowd, failings, told[2].stretch()).names(), told[2].names())
        self.assertEqual(told[1].order({}), Kept(kept, failings).order({}))


class LaterTest(Papered):
    def test_by_one_turn_and_by_several(self):
        pieces = Pieces(ROWS)
        for last, number in ((20, 1), (19, 2), (12, 9), (9, 12)):
            row = ("oil", 10, last, 3)
            told = later_end(pieces, 2, row)
            self.assertEqual(told[0], number)
            self.assertEqual(told[2].told(), ("crowd", 2, 10, 20))
            self.papers(told, pieces.with_row(with_last(row, 21)), pieces.with_row(with_last(row, 20)), 2)

    def test_none_where_not_even_the_last_turn_is_enough(self):
        self.assertIsNone(later_end(Pieces([]), 2, ("oil", 190, 195, 4)))
        self.assertEqual(later_end(Pieces([]), 1, ("oil", 190, 195, 4))[0], 2)
        self.assertIsNone(later_end(Pieces([]), 0, ("oil", 199, 199, 2)))
        self.assertIsNone(later_end(Pieces([]), 0, ("oil", 200, 199, 1)))
        self.assertEqual(later_end(Pieces([]), 1, ("oil", 196, 198, 2))[0], 1)

    def test_against_trying_each_number(self):
        found = []
        for pieces, failings, row in refused_rows(60):
            numbers = range(1, 200 - row[2])
            due = next((number for number in numbers
                        if is_kept(pieces.with_row(with_last(row, row[2] + number)), failings)), None)
            told = later_end(pieces, failings, row)
            found.append(due)
            if due is None:
                self.assertIsNone(told)
                continue
            self.assertEqual(told[0], due)
            last = row[2] + due
            self.papers(told, pieces.with_row(with_last(row, last)), pieces.with_row(with_last(row, last - 1)), failings)
            for later in (last + 1, last + 7, 199):
                self.assertIs(is_kept(pieces.with_row(with_last(row, min(later, 199))), failings), True)
        self.assertGreater(len(found), 100)
        self.assertIn(1, found)
        self.assertGreater(max(number for number in found if number), 5)

    def test_rows_without_what_is_left(self):
        told = later_end(Pieces([]), 1, ("oil", 0, 5, 4))
        self.assertEqual(told[0], 2)
        self.assertEqual(told[1].order({}), [(0, "oil"), (1, "oil"), (2, "oil"), (3, "oil")])
        self.assertEqual(later_end(Pieces([]), 1, ("oil", 0, 3, 4, 1))[0], 1)


class EarlierTest(Papered):
    def test_by_one_turn_and_by_several(self):
        pieces = Pieces(ROWS)
        for first, number in ((36, 1), (37, 2), (41, 6)):
            row = ("oil", first, 40, 3)
            told = earlier_start(pieces, 1, row)
            self.assertEqual(told[0], number)
            self.assertEqual(told[2].told(), ("crowd", 1, 36, 40))
            self.papers(told, pieces.with_row(with_first(row, 35)), pieces.with_row(with_first(row, 36)), 1)

    def test_none_where_not_even_turn_0_is_enough(self):
        self.assertIsNone(earlier_start(Pieces([]), 0, ("oil", 0, 2, 4)))
        self.assertIsNone(earlier_start(Pieces([]), 0, ("oil", 3, 2, 4)))
        self.assertEqual(earlier_start(Pieces([]), 0, ("oil", 3, 3, 4))[0], 3)
        self.assertEqual(earlier_start(Pieces([]), 0, ("oil", 200, 199, 12))[0], 12)

    def test_now(self):
        row = ("oil", 10, 12, 4)
        for call in (lambda now: earlier_start(Pieces([]), 0, row, now),
                     lambda now: earlier_start(Pieces([]), 0, row, now=now)):
            for now in (0, 5, 9):
                self.assertEqual(call(now)[0], 1)
            for now in (10, 11, 12, 13, 199, 200):
                self.assertIsNone(call(now))
        self.assertEqual(earlier_start(Pieces([]), 0, row)[0], 1)
        self.assertEqual(earlier_start(Pieces([]), 1, row, 5)[0], 5)
        self.assertIsNone(earlier_start(Pieces([]), 1, row, 6))

    def test_against_trying_each_number(self):
        found = []
        for pieces, failings, row in refused_rows(61):
            for now in (0, 1, 4, 9):
                due = next((number for number in range(1, row[1] - now + 1)
                            if is_kept(pieces.with_row(with_first(row, row[1] - number)), failings)), None)
                told = earlier_start(pieces, failings, row, now)
                found.append(due)
                if due is None:
                    self.assertIsNone(told)
                    continue
                self.assertEqual(told[0], due)
                first = row[1] - due
                self.papers(told, pieces.with_row(with_first(row, first)), pieces.with_row(with_first(row, first + 1)),
                            failings)
                self.assertIs(is_kept(pieces.with_row(with_first(row, 0)), failings), True)
        self.assertGreater(len([number for number in found if number]), 100)
        self.assertIn(None, found)

    def test_rows_without_what_is_left(self):
        told = earlier_start(Pieces([]), 1, ("oil", 10, 15, 4))
        self.assertEqual(told[0], 2)
        self.assertEqual(told[1].order({}), [(8, "oil"), (9, "oil"), (10, "oil"), (11, "oil")])
        self.assertEqual(earlier_start(Pieces([]), 1, ("oil", 10, 13, 4, 1))[0], 1)


class FewerTest(unittest.TestCase):
    def test_fewer_failings(self):
        pieces = Pieces(ROWS)
        self.assertEqual(fewer(pieces, 2, ("oil", 10, 20, 3)), 1)
        self.assertEqual(fewer(pieces, 2, ("oil", 10, 12, 3)), 0)
        self.assertEqual(fewer(pieces, 2, ("oil", 10, 11, 3)), -1)
        self.assertEqual(fewer(pieces, 0, ("oil", 10, 11, 3)), -1)
        self.assertEqual(fewer(pieces, 2, ("oil", 10, 9, 1)), -1)
        full = Pieces([("a", 0, 1, 1), ("b", 0, 1, 1)])
        self.assertEqual(fewer(full, 0, ("oil", 0, 0, 1)), -1)

    def test_all_sorts(self):
        found = []
        for pieces, failings, row in refused_rows(60):
            number = fewer(pieces, failings, row)
            self.assertEqual(number, borne(pieces.with_row(row)))
            self.assertLess(number, failings)
            found.append(number)
            self.assertIs(number < 0 or is_kept(pieces.with_row(row), number), True)
            self.assertIs(is_kept(pieces.with_row(row), number + 1), False)
        self.assertLessEqual({-1, 0, 1, 2}, set(found))


class InsteadTest(unittest.TestCase):
    def test_in_order_with_papers(self):
        pieces = Pieces([("z", 0, 9, 5), ("far", 20, 60, 2), ("a", 0, 9, 4)])
        told = instead_of(pieces, 0, ("oil", 0, 9, 3))
        self.assertIs(type(told), list)
        self.assertEqual([(name, paper.told(), paper.holds()) for name, paper in told],
                         [("z", ("kept", 0), True), ("a", ("kept", 0), True)])
        self.assertEqual([name for turn, name in told[0][1].order({})], ["a"] * 4 + ["oil"] * 3 + ["far"] * 2)
        self.assertEqual([name for turn, name in told[1][1].order({})], ["z"] * 5 + ["oil"] * 3 + ["far"] * 2)

    def test_only_some(self):
        pieces = Pieces([("z", 0, 9, 5), ("a", 0, 9, 4)])
        self.assertEqual([name for name, _ in instead_of(pieces, 0, ("oil", 0, 9, 6))], ["z"])

    def test_none(self):
        self.assertEqual(instead_of(Pieces(ROWS), 1, ("oil", 10, 12, 12)), [])
        self.assertEqual(instead_of(Pieces([]), 1, ("oil", 10, 12, 12)), [])

    def test_all_sorts(self):
        found = []
        for pieces, failings, row in refused_rows(200):
            told = instead_of(pieces, failings, row)
            due = [name for name in pieces.names()
                   if is_kept(Pieces([*[one for one in pieces.told() if one[0] != name], row]), failings)]
            self.assertEqual([name for name, _ in told], due)
            found.append(len(due))
            for name, paper in told:
                self.assertIs(type(paper), Kept)
                self.assertEqual((paper.told(), paper.holds()), (("kept", failings), True))
                others = pieces.without(name).with_row(row)
                self.assertEqual(paper.order({}), Kept(others, failings).order({}))
        self.assertLessEqual({0, 1, 2}, set(found))

    def test_a_list_that_was_told_is_the_askers_own(self):
        pieces = Pieces([("z", 0, 9, 5), ("a", 0, 9, 4)])
        row = ("oil", 0, 9, 3)
        instead_of(pieces, 0, row).clear()
        self.assertEqual(len(instead_of(pieces, 0, row)), 2)


def plain(told):
    """What was told, with the tuples of papers in their places."""
    if isinstance(told, (list, tuple)):
        return [plain(part) for part in told]
    return told.told() if isinstance(told, (Kept, Crowd)) else told


class AloneTest(unittest.TestCase):
    def test_the_same_question_has_an_equal_answer(self):
        row = ("oil", 10, 20, 3)
        for call in FOUR:
            pieces = Pieces(ROWS)
            due = plain(call(pieces, 2, row))
            self.assertEqual(plain(call(pieces, 2, row)), due)
            self.assertEqual(plain(call(Pieces(list(ROWS)), 2, row)), due)
            self.assertEqual(pieces.told(), ROWS)

    def test_what_is_handed_in_is_not_changed(self):
        for thing in all_things():
            before = copy.deepcopy(thing)
            for call in FOUR:
                for handed in ((thing, ("oil", 10, 20, 3)), (2, thing)):
                    try:
                        call(Pieces(ROWS), *handed)
                    except SlackError:
                        pass
            self.assertEqual(thing, before)


if __name__ == "__main__":
    unittest.main()
