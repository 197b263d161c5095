"""Points 111 to 114: what promised pieces have to spare."""

import copy
import unittest

from failslack.bearing import borne
from failslack.errors import NoFailings, NoPiece, NotKept, SlackError
from failslack.papers import Crowd, Kept
from failslack.pieces import Pieces
from failslack.spare import first_spare, last_spare, left_spare, length_spare, off_spare, spares
from failslack.weighing import is_kept, too_short
from tests.things import all_things, is_int, loose_pieces, refusal, small_pieces, thirty_pieces, wide_pieces

ROWS = (("mow", 3, 40, 5, 5), ("hay", 10, 20, 4, 1))
FOUR = (last_spare, first_spare, length_spare, left_spare)


def otherwise(kind, row, number):
    """The row that is otherwise by so many turns, None where the bounds do not allow it."""
    name, first, last, length, left = row
    if kind == 0:
        last -= number
    elif kind == 1:
        first += number
    elif kind == 2:
        length += number
        left += number
    else:
        left += number
    if last < 0 or last < first - 1 or length > 12 or left > length:
        return None
    return (name, first, last, length, left)


def with_other(pieces, row):
    """The pieces with this row in the place of the one of its name."""
    return Pieces([row if one[0] == row[0] else one for one in pieces.told()])


def tried_out(pieces, failings, name, kind):
    """The greatest number, by asking for each from 0 on, and whether one more is allowed by the bounds."""
    number = 0
    while True:
        row = otherwise(kind, pieces.row(name), number + 1)
        if row is None or not is_kept(with_other(pieces, row), failings):
            return number, row is not None
        number += 1


def all_sorts():
    return [*small_pieces(60), *loose_pieces(60), *wide_pieces(6), thirty_pieces(), Pieces(ROWS)]


class FourTest(unittest.TestCase):
    def numbers(self, rows, failings, name):
        return tuple(call(Pieces(rows), failings, name)[0] for call in FOUR)

    def test_two_pieces(self):
        self.assertEqual(self.numbers(ROWS, 2, "mow"), (23, 23, 7, 0))
        self.assertEqual(self.numbers(ROWS, 2, "hay"), (2, 2, 0, 2))
        self.assertEqual(self.numbers(ROWS, 0, "hay"), (10, 10, 8, 3))

    def test_all_at_their_bounds(self):
        self.assertEqual(self.numbers([("a", 0, 199, 12, 12)], 0, "a"), (188, 188, 0, 0))
        self.assertEqual(self.numbers([("a", 5, 60, 1, 0)], 0, "a"), (56, 56, 11, 1))

    def test_windows_that_come_to_be_empty(self):
        pieces = Pieces([("a", 5, 8, 3, 0)])
        number, kept, crowd = last_spare(pieces, 0, "a")
        self.assertEqual((number, kept.holds(), crowd), (4, True, None))
        number, kept, crowd = first_spare(pieces, 0, "a")
        self.assertEqual((number, kept.holds(), crowd), (4, True, None))
        pieces = Pieces([("a", 5, 4, 3, 0)])
        for call in (last_spare, first_spare):
            self.assertEqual((call(pieces, 0, "a")[0], call(pieces, 0, "a")[2]), (0, None))
        self.assertEqual(left_spare(pieces, 0, "a")[0], 0)
        self.assertEqual(left_spare(pieces, 0, "a")[2].told(), ("crowd", 0, 5, 4))

    def test_a_last_turn_that_comes_to_0(self):
        for first, last, number in ((0, 6, 6), (1, 6, 6), (2, 6, 5), (0, 0, 0), (1, 0, 0)):
            told = last_spare(Pieces([("a", first, last, 3, 0)]), 0, "a")
            self.assertEqual((told[0], told[2]), (number, None))
        told = last_spare(Pieces([("a", 0, 6, 1, 1)]), 0, "a")
        self.assertEqual((told[0], told[2]), (6, None))

    def test_a_first_turn_behind_all_turns(self):
        told = first_spare(Pieces([("a", 190, 199, 3, 0)]), 0, "a")
        self.assertEqual((told[0], told[2]), (10, None))

    def test_a_length_that_comes_to_12(self):
        told = length_spare(Pieces([("a", 0, 99, 3)]), 0, "a")
        self.assertEqual((told[0], told[2]), (9, None))
        told = length_spare(Pieces([("a", 0, 10, 3)]), 0, "a")
        self.assertEqual((told[0], told[2].told(), told[2].holds()), (8, ("crowd", 0, 0, 10), True))
        told = length_spare(Pieces([("a", 0, 99, 12)]), 0, "a")
        self.assertEqual((told[0], told[2]), (0, None))

    def test_what_is_left_up_to_the_length(self):
        told = left_spare(Pieces([("a", 0, 99, 3)]), 2, "a")
        self.assertEqual((told[0], told[2]), (0, None))
        told = left_spare(Pieces([("a", 0, 7, 3, 0)]), 2, "a")
        self.assertEqual((told[0], told[2].told()), (2, ("crowd", 2, 0, 7)))
        told = left_spare(Pieces([("a", 0, 8, 3, 0)]), 2, "a")
        self.assertEqual((told[0], told[2]), (3, None))

    def test_against_trying_each_number(self):
        bound = [0, 0, 0, 0]
        short = [0, 0, 0, 0]
        for pieces in all_sorts():
            for failings in (0, 1, 3):
                if not is_kept(pieces, failings):
                    continue
                # Of many pieces only some are tried out, as this takes long.
                for name in pieces.names()[::1 + len(pieces.names()) // 5]:
                    for kind, call in enumerate(FOUR):
                        number, more = tried_out(pieces, failings, name, kind)
                        told = call(pieces, failings, name)
                        self.looked_at(told, number, pieces, failings, name, kind, more)
                        bound[kind] += not more
                        short[kind] += more
        self.assertGreater(min(bound), 10)
        self.assertGreater(min(short), 20)

    def looked_at(self, told, number, pieces, failings, name, kind, more):
        self.assertIs(type(told), tuple)
        self.assertEqual((len(told), told[0]), (3, number), (pieces.told(), failings, name, kind))
        self.assertIs(type(told[1]), Kept)
        self.assertEqual((told[1].told(), told[1].holds()), (("kept", failings), True))
        other = with_other(pieces, otherwise(kind, pieces.row(name), number))
        self.assertEqual(told[1].order({}), Kept(other, failings).order({}))
        if not more:
            self.assertIsNone(told[2])
            return
        worse = with_other(pieces, otherwise(kind, pieces.row(name), number + 1))
        due = Crowd(worse, failings, too_short(worse, failings))
        self.assertIs(type(told[2]), Crowd)
        self.assertEqual((told[2].told(), told[2].holds()), (due.told(), True))
        self.assertEqual((told[2].names(), told[2].over()), (due.names(), due.over()))

    def test_its_place_among_the_others_stays(self):
        pieces = Pieces([("a", 0, 20, 2), ("b", 0, 20, 2), ("c", 0, 20, 2)])
        number, kept, crowd = left_spare(pieces.with_left("b", 1), 0, "b")
        self.assertEqual([name for turn, name in kept.order({})], ["a", "a", "b", "b", "c", "c"])

    def test_with_fewer_turns_they_are_kept_too(self):
        for pieces in [*loose_pieces(30), Pieces(ROWS)]:
            if is_kept(pieces, 1):
                for name in pieces.names():
                    for kind, call in enumerate(FOUR):
                        for number in range(call(pieces, 1, name)[0]):
                            other = with_other(pieces, otherwise(kind, pieces.row(name), number))
                            self.assertIs(is_kept(other, 1), True)

    def test_failings_at_the_bounds(self):
        pieces = Pieces([("a", 0, 199, 1, 0)])
        self.assertEqual(self.numbers(pieces.told(), 200, "a"), (0, 0, 0, 0))
        for failings in (201, 300):
            for call in FOUR:
                refusal(self, NotKept, call, pieces, failings, "a")

    def test_any_thing_as_failings(self):
        for thing in [-1, 301, *all_things()]:
            if not is_int(thing, 0, 300):
                for call in FOUR:
                    for name in ("mow", "oil", None):
                        self.assertIs(refusal(self, NoFailings, call, Pieces(ROWS), thing, name).found, thing)

    def test_any_thing_as_a_name(self):
        for thing in all_things():
            if thing != "mow":
                for call in FOUR:
                    for failings in (0, 2, 3, 300):
                        self.assertIs(refusal(self, NoPiece, call, Pieces(ROWS), failings, thing).found, thing)
                    self.assertIs(refusal(self, NoPiece, call, Pieces([]), 0, thing).found, thing)

    def test_pieces_that_are_not_kept(self):
        for call in FOUR:
            for name in ("mow", "hay"):
                refusal(self, NotKept, call, Pieces(ROWS), 3, name)
            refusal(self, NotKept, call, Pieces([("a", 5, 4, 1)]), 0, "a")


class AllTest(unittest.TestCase):
    def test_each_number_as_it_is_told_alone(self):
        for pieces in all_sorts():
            for failings in (0, 1, 2):
                if is_kept(pieces, failings):
                    due = {name: tuple(call(pieces, failings, name)[0] for call in FOUR) for name in pieces.names()}
                    told = spares(pieces, failings)
                    self.assertEqual(list(told.items()), list(due.items()))

    def test_numbers(self):
        told = spares(Pieces(ROWS[::-1]), 2)
        self.assertEqual(list(told.items()), [("hay", (2, 2, 0, 2)), ("mow", (23, 23, 7, 0))])

    def test_no_pieces(self):
        for failings in (0, 300):
            self.assertEqual(spares(Pieces([]), failings), {})

    def test_refusals(self):
        for thing in [-1, 301, *all_things()]:
            if not is_int(thing, 0, 300):
                for pieces in (Pieces(ROWS), Pieces([("a", 5, 4, 1)]), Pieces([])):
                    self.assertIs(refusal(self, NoFailings, spares, pieces, thing).found, thing)
        refusal(self, NotKept, spares, Pieces(ROWS), 3)
        refusal(self, NotKept, spares, Pieces([("a", 5, 4, 1)]), 0)

    def test_a_dict_that_was_told_is_the_askers_own(self):
        pieces = Pieces(ROWS)
        spares(pieces, 2).clear()
        self.assertEqual(len(spares(pieces, 2)), 2)


class OffTest(unittest.TestCase):
    def test_with_and_without(self):
        pieces = Pieces([*ROWS, ("oil", 50, 51, 3)])
        self.assertEqual(off_spare(pieces, "mow"), (-1, -1))
        self.assertEqual(off_spare(pieces, "oil"), (-1, 2))
        self.assertEqual(off_spare(Pieces(ROWS), "hay"), (2, 6))
        self.assertEqual(off_spare(Pieces(ROWS), "mow"), (2, 2))

    def test_no_others(self):
        self.assertEqual(off_spare(Pieces(ROWS[:1]), "mow"), (6, None))
        self.assertEqual(off_spare(Pieces([("a", 5, 4, 1)]), "a"), (-1, None))

    def test_all_sorts(self):
        more = 0
        for pieces in all_sorts():
            for name in pieces.names():
                told = off_spare(pieces, name)
                self.assertIs(type(told), tuple)
                others = Pieces([row for row in pieces.told() if row[0] != name])
                self.assertEqual(told, (borne(pieces), borne(others)))
                if others.names():
                    self.assertGreaterEqual(told[1], told[0])
                    more += told[1] > told[0]
        self.assertGreater(more, 20)

    def test_any_thing_as_a_name(self):
        for thing in all_things():
            if thing != "mow":
                self.assertIs(refusal(self, NoPiece, off_spare, Pieces(ROWS), thing).found, thing)
                self.assertIs(refusal(self, NoPiece, off_spare, Pieces([]), thing).found, thing)


class AloneTest(unittest.TestCase):
    def test_the_same_question_has_an_equal_answer(self):
        def plain(told):
            return (told[0], told[1].told(), told[2] and told[2].told())

        one = Pieces(ROWS)
        for call in FOUR:
            due = plain(call(one, 2, "hay"))
            self.assertEqual(plain(call(one, 2, "hay")), due)
            self.assertEqual(plain(call(Pieces(list(ROWS)), 2, "hay")), due)
        self.assertEqual(spares(one, 2), spares(one, 2))
        self.assertEqual(off_spare(one, "hay"), off_spare(one, "hay"))
        self.assertEqual(one.told(), ROWS)

    def test_what_is_handed_in_is_not_changed(self):
        for thing in all_things():
            before = copy.deepcopy(thing)
            for call, handed in ((last_spare, (thing, thing)), (last_spare, (0, thing)), (left_spare, (thing, "mow")),
                                 (spares, (thing,)), (off_spare, (thing,))):
                try:
                    call(Pieces(ROWS), *handed)
                except SlackError:
                    pass
            self.assertEqual(thing, before)


if __name__ == "__main__":
    unittest.main()
