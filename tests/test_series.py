"""Points 121 to 124 and 126: work that comes again."""

import copy
import itertools
import unittest

from failslack.bearing import borne, each_borne
from failslack.errors import BadSeries, NoPiece, NoTurn, SlackError
from failslack.pieces import Pieces
from failslack.series import Series, borne_by, tightest
from tests.things import all_things, is_int, refusal

ROWS = (("mow", 3, 10, 2, 40, 4), ("hay", 0, 5, 1, 3, 3), ("oil", 43, 100, 12, 200, 1))


def row_with(**changes):
    """A good row but for these things."""
    row = {"name": "mow", "first": 3, "window": 10, "length": 2, "every": 40, "times": 4, **changes}
    return tuple(row.values())


def some_series():
    """Series of all sorts."""
    return [Series([]), Series(ROWS), Series(ROWS[::-1]), Series([("a", 0, 200, 12, 1, 1)]),
            Series([("a", 0, 1, 1, 1, 30)]), Series([("a", 5, 9, 2, 4, 10), ("a1", 5, 3, 2, 7, 9)]),
            Series([(f"r{at}", at, 199 - at, at % 12 + 1, 1, 1) for at in range(30)]),
            Series([("b", 10, 4, 2, 10, 5), ("a", 20, 30, 3, 20, 3), ("c", 0, 1, 1, 5, 7)])]


def plain_pieces(rows):
    """All pieces by the words of 121: tuples (first turn, place of the row, number, row of the piece)."""
    told = []
    for at, (name, first, window, length, every, times) in enumerate(rows):
        for number in range(times):
            start = first + number * every
            told.append((start, at, number, (name + str(number), start, start + window - 1, length, length)))
    return sorted(told)


class Refused(unittest.TestCase):
    def bad(self, at, why, rows):
        error = refusal(self, BadSeries, Series, rows)
        self.assertEqual((error.at, error.why), (at, why), rows)


class BoundsTest(Refused):
    def test_no_rows(self):
        for rows in ([], ()):
            self.assertEqual(Series(rows).told(), ())
            self.assertEqual(Series(rows).names(), [])
            self.assertEqual(Series(rows).pieces().told(), ())

    def test_thirty_rows_and_one_more(self):
        rows = [(f"r{at}", at, 10, 1, 1, 1) for at in range(30)]
        self.assertEqual(len(Series(rows).pieces().told()), 30)
        self.bad(30, "many", [*rows, ("q", 0, 1, 1, 1, 1)])
        self.bad(30, "many", [None] * 31)
        self.bad(30, "many", (None,) * 3000)

    def test_thirty_pieces_and_one_more(self):
        self.assertEqual(len(Series([("a", 0, 1, 1, 1, 30)]).pieces().told()), 30)
        self.bad(1, "together", [("a", 0, 1, 1, 1, 30), ("b", 0, 1, 1, 1, 1)])
        self.bad(2, "together", [("a", 0, 1, 1, 1, 15), ("b", 0, 1, 1, 1, 14), ("c", 0, 1, 1, 1, 2)])
        self.assertEqual(len(Series([("a", 0, 1, 1, 1, 15), ("b", 0, 1, 1, 1, 14), ("c", 0, 1, 1, 1, 1)]).told()), 3)

    def test_any_thing(self):
        for thing in all_things():
            if not isinstance(thing, (list, tuple)):
                self.bad(None, "form", thing)
            elif len(thing) > 30:
                self.bad(30, "many", thing)
            elif len(thing) > 0:
                self.bad(0, "form", thing)
            else:
                self.assertEqual(Series(thing).told(), ())

    def test_any_thing_as_a_row(self):
        for thing in all_things():
            if isinstance(thing, tuple) and len(thing) == 6:
                self.assertEqual(Series([thing]).told(), (("mow", 3, 40, 5, 5, 5),))
                continue
            self.bad(0, "form", [thing])
            self.bad(1, "form", (("a", 0, 1, 1, 1, 1), thing))
        for row in (ROWS[0][:5], (*ROWS[0], 1), list(ROWS[0])):
            self.bad(0, "form", [row])

    def test_names(self):
        for name in ("a", "abcdef", "a12345"):
            self.assertEqual(Series([row_with(name=name)]).names(), [name])
        for name in ["abcdefg", "abcdefgh", "Mow", "1a", *all_things()]:
            if name not in ("a", "a1", "mow", "form"):
                self.bad(0, "name", [row_with(name=name)])
        self.bad(1, "double", [row_with(), row_with(first=0)])
        self.bad(2, "double", [row_with(), row_with(name="b"), row_with()])

    def test_numbers(self):
        whole = {"first": (0, 199), "window": (1, 200), "length": (1, 12), "every": (1, 200), "times": (1, 30)}
        for what, (low, high) in whole.items():
            for thing in [low - 1, high + 1, *all_things()]:
                if not is_int(thing, low, high):
                    self.bad(0, what, [row_with(**{what: thing})])
        for row in (("a", 0, 200, 12, 200, 1), ("a", 199, 1, 1, 1, 1), ("a", 0, 1, 1, 1, 30), ("a", 170, 1, 1, 1, 30),
                    ("a", 0, 200, 1, 1, 1), ("a", 0, 199, 1, 1, 2), ("a", 19, 1, 1, 180, 2)):
            self.assertEqual(Series([row]).told(), (row,))

    def test_the_last_turn_of_the_last_piece(self):
        for row in (("a", 1, 200, 1, 1, 1), ("a", 0, 200, 1, 1, 2), ("a", 170, 2, 1, 1, 30), ("a", 171, 1, 1, 1, 30),
                    ("a", 0, 1, 1, 200, 2), ("a", 199, 200, 1, 200, 30), ("a", 199, 2, 1, 1, 1)):
            self.bad(0, "last", [row])

    def test_which_goes_first(self):
        worst = ("Mow", 200, 0, 13, 201, 31)
        self.bad(0, "name", [worst])
        self.bad(0, "first", [("mow", *worst[1:])])
        self.bad(0, "window", [("mow", 199, *worst[2:])])
        self.bad(0, "length", [("mow", 199, 200, *worst[3:])])
        self.bad(0, "every", [("mow", 199, 200, 12, *worst[4:])])
        self.bad(0, "times", [("mow", 199, 200, 12, 200, 31)])
        self.bad(0, "last", [("mow", 199, 200, 12, 200, 30)])
        self.bad(1, "double", [ROWS[0], ("mow", *worst[1:])])
        full = ("a", 0, 1, 1, 1, 30)
        self.bad(1, "last", [full, ("a1", 199, 200, 1, 1, 2)])
        self.bad(1, "meets", [full, ("a1", 0, 1, 1, 1, 1)])
        self.bad(1, "together", [full, ("a3", 0, 1, 1, 1, 1)])

    def test_the_first_row_that_is_bad(self):
        self.bad(1, "times", [ROWS[0], row_with(name="b", times=0), None])
        self.bad(0, "last", [row_with(first=199), None])
        self.bad(1, "together", [("a", 0, 1, 1, 1, 30), ("b", 0, 1, 1, 1, 1), None])

    def test_names_that_go_on_into_one_another(self):
        eleven = ("a", 0, 1, 1, 1, 11)
        ten = ("a", 0, 1, 1, 1, 10)
        other = ("a1", 0, 1, 1, 1, 3)
        for one, two in ((eleven, other), (other, eleven)):
            self.bad(1, "meets", [one, two])
            self.bad(2, "meets", [one, ("b", 0, 1, 1, 1, 1), two])
        for one, two in ((ten, other), (other, ten)):
            self.assertEqual(Series([one, two]).names(), [one[0], two[0]])
        self.assertEqual(sorted(Series([ten, other]).pieces().names())[:4], ["a0", "a1", "a10", "a11"])
        self.bad(1, "meets", [("a1", 0, 1, 1, 1, 1), eleven])
        self.bad(1, "meets", [("a2", 0, 1, 1, 1, 3), ("a", 0, 1, 1, 1, 21)])
        self.assertEqual(len(Series([("a2", 0, 1, 1, 1, 3), ("a", 0, 1, 1, 1, 20)]).told()), 2)

    def test_each_method_stands_in_the_class(self):
        for name in ("told", "names", "row", "pieces", "begun_at", "whose", "open_at"):
            self.assertIn(name, vars(Series))


class ToldTest(unittest.TestCase):
    def test_rows_and_names(self):
        for rows in (ROWS, list(ROWS)):
            series = Series(rows)
            self.assertEqual(series.told(), ROWS)
            self.assertIs(type(series.told()), tuple)
            self.assertEqual(series.names(), ["mow", "hay", "oil"])
            for row in ROWS:
                self.assertEqual(series.row(row[0]), row)

    def test_any_thing_as_a_name(self):
        series = Series([("hay", 0, 5, 1, 3, 3)])
        for thing in ["hay0", "ha", *all_things()]:
            self.assertIs(refusal(self, NoPiece, series.row, thing).found, thing)
            self.assertIs(refusal(self, NoPiece, Series([]).row, thing).found, thing)

    def test_pieces(self):
        pieces = Series(ROWS).pieces()
        self.assertIs(type(pieces), Pieces)
        self.assertEqual(pieces.told(), (
            ("hay0", 0, 4, 1, 1), ("mow0", 3, 12, 2, 2), ("hay1", 3, 7, 1, 1), ("hay2", 6, 10, 1, 1),
            ("mow1", 43, 52, 2, 2), ("oil0", 43, 142, 12, 12), ("mow2", 83, 92, 2, 2), ("mow3", 123, 132, 2, 2),
        ))

    def test_pieces_of_all_sorts(self):
        for series in some_series():
            due = tuple(row for _, _, _, row in plain_pieces(series.told()))
            self.assertEqual(series.pieces().told(), due)

    def test_those_of_one_first_turn_in_the_order_of_the_rows(self):
        rows = [(name, 5, 4, 1, 10, 2) for name in ("c", "a", "b")]
        self.assertEqual(Series(rows).pieces().names(), ["c0", "a0", "b0", "c1", "a1", "b1"])

    def test_lists_that_were_told_are_the_askers_own(self):
        rows = list(ROWS)
        series = Series(rows)
        rows.clear()
        series.names().clear()
        series.open_at(43).clear()
        self.assertEqual((series.told(), series.names()), (ROWS, ["mow", "hay", "oil"]))
        self.assertEqual(series.open_at(43), ["mow1", "oil0"])

    def test_what_is_handed_in_is_not_changed(self):
        series = Series(ROWS)
        for thing in all_things():
            before = copy.deepcopy(thing)
            for call, handed in ((Series, (thing,)), (series.row, (thing,)), (series.begun_at, (thing, thing)),
                                 (series.begun_at, ("mow", thing)), (series.whose, (thing,)),
                                 (series.open_at, (thing,))):
                try:
                    call(*handed)
                except SlackError:
                    pass
            self.assertEqual(thing, before)


class AtTest(unittest.TestCase):
    def test_around_each_window(self):
        series = Series(ROWS)
        for turn, due in ((0, None), (2, None), (3, (0, 0)), (4, (0, 1)), (12, (0, 9)), (13, (0, 10)), (42, (0, 39)),
                          (43, (1, 0)), (82, (1, 39)), (83, (2, 0)), (122, (2, 39)), (123, (3, 0)), (132, (3, 9)),
                          (133, None), (199, None)):
            self.assertEqual(series.begun_at("mow", turn), due, turn)

    def test_windows_that_lie_over_one_another(self):
        series = Series(ROWS)
        told = [series.begun_at("hay", turn) for turn in range(12)]
        self.assertEqual(told, [(0, 0), (0, 1), (0, 2), (1, 0), (1, 1), (1, 2), (2, 0), (2, 1), (2, 2), (2, 3), (2, 4),
                                None])

    def test_all_turns_of_all_sorts(self):
        for series in some_series():
            for row in series.told():
                pieces = [piece for _, at, _, piece in plain_pieces([row])]
                for turn in range(200):
                    begun = [(number, turn - piece[1]) for number, piece in enumerate(pieces) if piece[1] <= turn]
                    due = begun[-1] if begun and turn <= pieces[-1][2] else None
                    self.assertEqual(series.begun_at(row[0], turn), due)

    def test_refusals(self):
        series = Series(ROWS)
        for thing in [-1, 200, *all_things()]:
            if not is_int(thing, 0, 199):
                self.assertIs(refusal(self, NoTurn, series.begun_at, "mow", thing).found, thing)
                self.assertIs(refusal(self, NoTurn, series.open_at, thing).found, thing)
                self.assertIs(refusal(self, NoTurn, Series([]).open_at, thing).found, thing)
            if thing != "mow":
                for turn in (0, 200, None):
                    self.assertIs(refusal(self, NoPiece, series.begun_at, thing, turn).found, thing)
        self.assertEqual(refusal(self, NoPiece, series.begun_at, "mow0", 3).found, "mow0")

    def test_whose(self):
        series = Series(ROWS)
        for name, due in (("mow0", ("mow", 0)), ("mow3", ("mow", 3)), ("hay2", ("hay", 2)), ("oil0", ("oil", 0))):
            self.assertEqual(series.whose(name), due)
        for thing in ["mow", "mow4", "mow00", "hay3", "oil1", "0", *all_things()]:
            self.assertIs(refusal(self, NoPiece, series.whose, thing).found, thing)
            self.assertIs(refusal(self, NoPiece, Series([]).whose, thing).found, thing)

    def test_whose_of_all_sorts(self):
        for series in some_series():
            for _, at, number, piece in plain_pieces(series.told()):
                self.assertEqual(series.whose(piece[0]), (series.told()[at][0], number))

    def test_whose_of_names_that_go_on_into_one_another(self):
        series = Series([("a", 0, 1, 1, 1, 10), ("a1", 0, 1, 1, 1, 3)])
        self.assertEqual([series.whose(name) for name in ("a1", "a9", "a10", "a12")],
                         [("a", 1), ("a", 9), ("a1", 0), ("a1", 2)])

    def test_in_whose_windows_a_turn_lies(self):
        series = Series(ROWS)
        for turn, due in ((0, ["hay0"]), (3, ["hay0", "mow0", "hay1"]), (4, ["hay0", "mow0", "hay1"]),
                          (5, ["mow0", "hay1"]), (10, ["mow0", "hay2"]), (11, ["mow0"]), (13, []), (42, []),
                          (43, ["mow1", "oil0"]), (142, ["oil0"]), (143, []), (199, [])):
            self.assertEqual(series.open_at(turn), due, turn)

    def test_in_whose_windows_each_turn_lies(self):
        for series in some_series():
            for turn in range(200):
                due = [row[0] for _, _, _, row in plain_pieces(series.told()) if turn in range(row[1], row[2] + 1)]
                self.assertEqual(series.open_at(turn), due)


class BorneTest(unittest.TestCase):
    def test_no_rows(self):
        self.assertIsNone(borne_by(Series([])))
        self.assertEqual(tightest(Series([])), {})

    def test_not_kept_for_none(self):
        series = Series([("b", 0, 20, 1, 30, 2), ("a", 0, 2, 3, 10, 2)])
        self.assertEqual(borne_by(series), -1)
        self.assertEqual(tightest(series), {"b": -1, "a": -1})

    def test_numbers(self):
        self.assertEqual(borne_by(Series([("mow", 3, 10, 2, 40, 4)])), 4)
        self.assertEqual(tightest(Series([("mow", 3, 10, 2, 40, 4)])), {"mow": 4})
        series = Series([("mow", 3, 10, 2, 40, 4), ("hay", 3, 10, 4, 80, 1)])
        self.assertEqual(borne_by(series), 1)
        self.assertEqual(each_borne(series.pieces()), {"mow0": 2, "hay0": 1, "mow1": 4, "mow2": 4, "mow3": 4})
        self.assertEqual(list(tightest(series).items()), [("mow", 2), ("hay", 1)])

    def test_all_sorts(self):
        for series in some_series():
            pieces = Pieces([row for _, _, _, row in plain_pieces(series.told())])
            self.assertEqual(borne_by(series), borne(pieces))
            each = each_borne(pieces)
            due = {}
            for _, at, _, row in plain_pieces(series.told()):
                name = series.told()[at][0]
                due[name] = min(due.get(name, 999), each[row[0]])
            self.assertEqual(tightest(series), due)
            self.assertEqual(list(tightest(series)), series.names())
            if due:
                self.assertEqual(min(due.values()), borne_by(series))

    def test_a_dict_that_was_told_is_the_askers_own(self):
        series = Series(ROWS)
        tightest(series).clear()
        self.assertEqual(list(tightest(series)), ["mow", "hay", "oil"])

    def test_the_same_question_has_an_equal_answer(self):
        for one, two in itertools.product((Series(ROWS), Series(list(ROWS))), repeat=2):
            self.assertEqual(borne_by(one), borne_by(two))
            self.assertEqual(tightest(one), tightest(two))
            self.assertEqual(one.pieces().told(), two.pieces().told())
            self.assertEqual(one.begun_at("mow", 50), two.begun_at("mow", 50))
            self.assertEqual(one.whose("mow1"), two.whose("mow1"))
            self.assertEqual(one.open_at(50), two.open_at(50))


if __name__ == "__main__":
    unittest.main()
