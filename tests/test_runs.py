"""Points 5, 31 and 32: counts, and runs by the nearest last turn."""

import copy
import unittest

from failslack.errors import NoCounts, NoPiece
from failslack.pieces import Pieces
from failslack.runs import Run, is_counts, run
from tests.things import all_counts, all_things, is_int, refusal, small_pieces, thirty_pieces, wide_pieces

ROWS = (("mow", 3, 40, 5, 5), ("hay", 10, 20, 4, 1), ("oil", 0, 30, 3, 0))


def due_rows(pieces, counts):
    """The turns of a run, by how many turns each piece wants in all."""
    wanted = {row[0]: row[4] + row[3] * counts.get(row[0], 0) for row in pieces.told()}
    rows = []
    turn = 0
    while any(wanted.values()):
        ready = [(row[2], at, row[0]) for at, row in enumerate(pieces.told()) if wanted[row[0]] and row[1] <= turn]
        if ready:
            rows.append((turn, min(ready)[2]))
            wanted[min(ready)[2]] -= 1
        turn += 1
    return rows


def due_ends(pieces, counts):
    """The ends of a run, read off its turns."""
    rows = due_rows(pieces, counts)
    ends = []
    for at, (name, first, last, length, left) in enumerate(pieces.told()):
        turns = [turn for turn, who in rows if who == name]
        many = counts.get(name, 0)
        for number in range(many + 1):
            worked = left + number * length
            turn = turns[worked - 1] if worked else first - 1
            ends.append((turn, worked == 0, at, (name, number, turn, "failed" if number < many else "done")))
    return [end for _, _, _, end in sorted(ends)]


class Checked(unittest.TestCase):
    def checked(self, pieces, counts):
        """The run, of which all is as the pieces and counts want it."""
        told = run(pieces, counts)
        self.assertIs(type(told), Run)
        ends = due_ends(pieces, counts)
        self.assertEqual(told.rows(), due_rows(pieces, counts))
        self.assertEqual(told.ends(), ends)
        turns = {name: turn for name, _, turn, word in ends if word == "done"}
        self.assertEqual([told.done_turn(name) for name in pieces.names()], [turns[name] for name in pieces.names()])
        self.assertEqual(told.late(), [row[0] for row in pieces.told() if turns[row[0]] > row[2]])
        fell = {name: counts[name] for name in pieces.names() if counts.get(name, 0) > 0}
        self.assertEqual(list(told.fell().items()), list(fell.items()))
        return told


class IsCountsTest(unittest.TestCase):
    def setUp(self):
        self.pieces = Pieces(ROWS)

    def test_counts(self):
        for thing in (
            {}, {"mow": 0}, {"mow": 1}, {"mow": 200}, {"mow": 100, "hay": 100}, {"oil": 1, "hay": 2, "mow": 3},
            {"mow": 198, "hay": 1, "oil": 1}, {"mow": 0, "hay": 200, "oil": 0},
        ):
            self.assertIs(is_counts(self.pieces, thing), True, thing)

    def test_what_are_none(self):
        for thing in (
            {"mow": 201}, {"mow": 200, "hay": 1}, {"mow": 100, "hay": 101}, {"mow": 199, "hay": 1, "oil": 1},
            {"mow": -1}, {"mow": -1, "hay": 1}, {"mow": 201, "hay": -1}, {"mow": 300, "hay": -200},
            {"mow": True}, {"mow": False}, {"mow": None}, {"mow": "1"}, {"mow": [1]}, {"mow": (1,)}, {"mow": {}},
            {"mow": 10 ** 29}, {"mow": -(10 ** 29)}, {"cow": 1}, {"cow": 0}, {"mow": 1, "cow": 0}, {"Mow": 0}, {"": 0},
            {None: 0}, {0: 0}, {True: 0}, {False: 0}, {("mow",): 0}, {"mow": 1, 1: 1}, {"mow": 1, ("mow", 1): 0},
            [], [("mow", 1)], ["mow"], (), (("mow", 1),), "mow", "", None, True, False, 0, 1,
        ):
            self.assertIs(is_counts(self.pieces, thing), False, thing)

    def test_of_no_pieces(self):
        self.assertIs(is_counts(Pieces([]), {}), True)
        self.assertIs(is_counts(Pieces([]), {"mow": 0}), False)
        self.assertIs(is_counts(Pieces([]), {"mow": 1}), False)

    def test_of_thirty_pieces(self):
        pieces = thirty_pieces()
        self.assertIs(is_counts(pieces, {name: 6 for name in pieces.names()}), True)
        self.assertIs(is_counts(pieces, {name: 7 for name in pieces.names()}), False)
        self.assertIs(is_counts(pieces, {**{name: 6 for name in pieces.names()}, "q7": 26}), True)
        self.assertIs(is_counts(pieces, {**{name: 6 for name in pieces.names()}, "q7": 27}), False)

    def test_any_thing(self):
        for thing in all_things():
            due = type(thing) is dict and all(key == "mow" for key in thing)
            due = due and all(is_int(number, 0, 200) for number in thing.values())
            self.assertIs(is_counts(self.pieces, thing), due, thing)

    def test_any_thing_as_a_number(self):
        for thing in all_things():
            self.assertIs(is_counts(self.pieces, {"mow": thing}), is_int(thing, 0, 200), thing)
            self.assertIs(is_counts(self.pieces, {"hay": 0, "mow": thing}), is_int(thing, 0, 200), thing)

    def test_names_are_those_of_these_pieces(self):
        self.assertIs(is_counts(self.pieces.without("hay"), {"hay": 1}), False)
        self.assertIs(is_counts(self.pieces.with_row(("cow", 0, 1, 1)), {"cow": 1}), True)


class RefusalTest(unittest.TestCase):
    def test_any_thing_as_counts(self):
        pieces = Pieces(ROWS)
        for thing in all_things():
            before = copy.deepcopy(thing)
            if is_counts(pieces, thing):
                self.assertEqual(run(pieces, thing).fell(), {name: many for name, many in thing.items() if many})
            else:
                self.assertIs(refusal(self, NoCounts, run, pieces, thing).found, thing)
            self.assertEqual(thing, before)

    def test_what_are_no_counts(self):
        for thing in ({"mow": 201}, {"mow": 200, "hay": 1}, {"cow": 0}, {"mow": True}, {1: 1}, [], None, False):
            self.assertIs(refusal(self, NoCounts, run, Pieces(ROWS), thing).found, thing)
            self.assertIs(refusal(self, NoCounts, run, Pieces([]), thing).found, thing)

    def test_any_thing_as_a_name(self):
        told = run(Pieces(ROWS), {"mow": 1})
        for thing in all_things():
            if thing == "mow":
                self.assertEqual(told.done_turn(thing), 13)
            else:
                self.assertIs(refusal(self, NoPiece, told.done_turn, thing).found, thing)
            self.assertIs(refusal(self, NoPiece, run(Pieces([]), {}).done_turn, thing).found, thing)


class RunTest(Checked):
    def test_no_pieces(self):
        told = self.checked(Pieces([]), {})
        self.assertEqual((told.rows(), told.ends(), told.late(), told.fell()), ([], [], [], {}))

    def test_one_piece(self):
        told = self.checked(Pieces([("a", 2, 9, 3)]), {})
        self.assertEqual(told.rows(), [(2, "a"), (3, "a"), (4, "a")])
        self.assertEqual(told.ends(), [("a", 0, 4, "done")])
        self.assertEqual((told.done_turn("a"), told.late(), told.fell()), (4, [], {}))

    def test_one_piece_that_fails(self):
        told = self.checked(Pieces([("a", 2, 9, 3, 1)]), {"a": 2})
        self.assertEqual(told.rows(), [(turn, "a") for turn in range(2, 9)])
        self.assertEqual(told.ends(), [("a", 0, 2, "failed"), ("a", 1, 5, "failed"), ("a", 2, 8, "done")])
        self.assertEqual((told.done_turn("a"), told.late(), told.fell()), (8, [], {"a": 2}))

    def test_by_its_last_turn_and_one_turn_late(self):
        self.assertEqual(self.checked(Pieces([("a", 2, 8, 3, 1)]), {"a": 2}).late(), [])
        self.assertEqual(self.checked(Pieces([("a", 2, 7, 3, 1)]), {"a": 2}).late(), ["a"])

    def test_the_nearest_last_turn_goes_ahead(self):
        told = self.checked(Pieces([("a", 0, 20, 4), ("b", 2, 6, 2), ("c", 3, 9, 1)]), {"b": 1})
        self.assertEqual(told.rows(), [
            (0, "a"), (1, "a"), (2, "b"), (3, "b"), (4, "b"), (5, "b"), (6, "c"), (7, "a"), (8, "a"),
        ])
        self.assertEqual(told.ends(), [
            ("b", 0, 3, "failed"), ("b", 1, 5, "done"), ("c", 0, 6, "done"), ("a", 0, 8, "done"),
        ])

    def test_of_equal_last_turns_the_one_that_stands_first(self):
        told = self.checked(Pieces([("b", 1, 9, 2), ("a", 0, 9, 2), ("c", 0, 9, 1)]), {})
        self.assertEqual(told.rows(), [(0, "a"), (1, "b"), (2, "b"), (3, "a"), (4, "c")])
        told = self.checked(Pieces([("a", 0, 9, 2), ("c", 0, 9, 1), ("b", 1, 9, 2)]), {"a": 1})
        self.assertEqual(told.rows(), [
            (0, "a"), (1, "a"), (2, "a"), (3, "a"), (4, "c"), (5, "b"), (6, "b"),
        ])

    def test_turns_in_which_nothing_is_done(self):
        told = self.checked(Pieces([("a", 2, 9, 1), ("b", 5, 9, 1), ("c", 199, 199, 1)]), {})
        self.assertEqual(told.rows(), [(2, "a"), (5, "b"), (199, "c")])

    def test_behind_all_turns(self):
        told = self.checked(Pieces([("a", 198, 199, 3), ("b", 200, 199, 2, 1)]), {"b": 1})
        self.assertEqual(told.rows(), [(turn, "a") for turn in (198, 199, 200)] + [(turn, "b") for turn in (201, 202, 203)])
        self.assertEqual(told.late(), ["a", "b"])
        self.assertEqual(told.done_turn("b"), 203)

    def test_the_longest_run_of_all(self):
        told = self.checked(Pieces([("a", 200, 199, 12)]), {"a": 200})
        self.assertEqual(told.done_turn("a"), 200 + 12 * 201 - 1)
        self.assertEqual(told.fell(), {"a": 200})
        self.assertEqual(len(told.ends()), 201)

    def test_empty_windows(self):
        told = self.checked(Pieces([("a", 5, 4, 2), ("b", 1, 0, 1, 0), ("c", 5, 9, 1)]), {})
        self.assertEqual(told.rows(), [(5, "a"), (6, "a"), (7, "c")])
        self.assertEqual(told.ends(), [("b", 0, 0, "done"), ("a", 0, 6, "done"), ("c", 0, 7, "done")])
        self.assertEqual(told.late(), ["a"])

    def test_late_ones_stand_in_the_pieces_order(self):
        rows = [("c", 0, 2, 3), ("a", 0, 1, 2), ("b", 0, 199, 1), ("d", 0, 0, 1)]
        self.assertEqual(self.checked(Pieces(rows), {}).late(), ["c", "a"])
        self.assertEqual(self.checked(Pieces(rows[::-1]), {}).late(), ["a", "c"])

    def test_fell_stands_in_the_pieces_order(self):
        told = self.checked(Pieces(ROWS), {"oil": 1, "hay": 0, "mow": 2})
        self.assertEqual(list(told.fell().items()), [("mow", 2), ("oil", 1)])

    def test_the_order_of_keys_means_nothing(self):
        one = run(Pieces(ROWS), {"oil": 1, "hay": 1, "mow": 2})
        two = run(Pieces(ROWS), {"mow": 2, "hay": 1, "oil": 1})
        self.assertEqual((one.rows(), one.ends(), list(one.fell())), (two.rows(), two.ends(), list(two.fell())))

    def test_thirty_pieces(self):
        pieces = thirty_pieces()
        self.checked(pieces, {})
        self.checked(pieces, {name: 6 for name in pieces.names()})
        self.checked(pieces, {"q11": 200})

    def test_all_counts_of_small_pieces(self):
        for pieces in small_pieces(60):
            for counts in all_counts(pieces, 3):
                self.checked(pieces, counts)

    def test_wide_pieces(self):
        for pieces in wide_pieces(12):
            self.checked(pieces, {})
            self.checked(pieces, {name: 200 // len(pieces.names()) for name in pieces.names()})
            self.checked(pieces, {name: at % 3 for at, name in enumerate(pieces.names())})


class NothingLeftTest(Checked):
    def test_its_try_ended_ahead_of_its_first_turn(self):
        told = self.checked(Pieces([("a", 5, 9, 3, 0)]), {})
        self.assertEqual(told.rows(), [])
        self.assertEqual(told.ends(), [("a", 0, 4, "done")])
        self.assertEqual((told.done_turn("a"), told.late(), told.fell()), (4, [], {}))

    def test_with_the_first_turn_nought(self):
        told = self.checked(Pieces([("a", 0, 9, 3, 0)]), {})
        self.assertEqual(told.ends(), [("a", 0, -1, "done")])
        self.assertEqual((told.rows(), told.done_turn("a"), told.late()), ([], -1, []))

    def test_where_that_try_fails(self):
        told = self.checked(Pieces([("a", 5, 9, 3, 0)]), {"a": 1})
        self.assertEqual(told.rows(), [(5, "a"), (6, "a"), (7, "a")])
        self.assertEqual(told.ends(), [("a", 0, 4, "failed"), ("a", 1, 7, "done")])
        told = self.checked(Pieces([("a", 0, 4, 3, 0)]), {"a": 2})
        self.assertEqual(told.rows(), [(turn, "a") for turn in range(6)])
        self.assertEqual(told.ends(), [("a", 0, -1, "failed"), ("a", 1, 2, "failed"), ("a", 2, 5, "done")])
        self.assertEqual(told.late(), ["a"])

    def test_an_empty_window(self):
        told = self.checked(Pieces([("a", 200, 199, 3, 0)]), {})
        self.assertEqual((told.done_turn("a"), told.late()), (199, []))
        told = self.checked(Pieces([("a", 200, 199, 3, 0)]), {"a": 1})
        self.assertEqual((told.done_turn("a"), told.late()), (202, ["a"]))

    def test_several_in_one_turn_with_one_that_was_worked(self):
        # w is worked on in turn 3, and ends there; so do z and x, with nothing left, though z stands ahead of w.
        rows = [("z", 4, 20, 2, 0), ("w", 0, 30, 4), ("x", 4, 9, 1, 0), ("y", 5, 9, 1, 0)]
        told = self.checked(Pieces(rows), {})
        self.assertEqual(told.ends(), [
            ("w", 0, 3, "done"), ("z", 0, 3, "done"), ("x", 0, 3, "done"), ("y", 0, 4, "done"),
        ])
        told = self.checked(Pieces(rows), {"z": 1, "w": 1, "x": 1, "y": 1})
        self.assertEqual(told.ends(), [
            ("w", 0, 3, "failed"), ("z", 0, 3, "failed"), ("x", 0, 3, "failed"), ("x", 1, 4, "done"),
            ("y", 0, 4, "failed"), ("y", 1, 5, "done"), ("z", 1, 7, "done"), ("w", 1, 11, "done"),
        ])

    def test_several_ahead_of_all_turns(self):
        told = self.checked(Pieces([("b", 0, 9, 2, 0), ("a", 0, 3, 1, 0), ("c", 0, 0, 1, 0)]), {"b": 1, "c": 1})
        self.assertEqual(told.ends(), [
            ("b", 0, -1, "failed"), ("a", 0, -1, "done"), ("c", 0, -1, "failed"), ("c", 1, 0, "done"),
            ("b", 1, 2, "done"),
        ])

    def test_all_of_thirty(self):
        pieces = Pieces([(f"n{at}", at % 3, 199, 2, 0) for at in range(30)])
        self.assertEqual(self.checked(pieces, {}).rows(), [])
        self.checked(pieces, {f"n{at}": at % 3 for at in range(30)})


class ChangelessTest(Checked):
    def test_counts_that_are_changed_behind(self):
        counts = {"mow": 1}
        told = run(Pieces(ROWS), counts)
        due = (told.rows(), told.ends(), told.late(), told.fell(), told.done_turn("mow"))
        self.assertEqual(counts, {"mow": 1})
        counts["mow"] = 5
        counts["hay"] = 2
        counts["cow"] = None
        self.assertEqual((told.rows(), told.ends(), told.late(), told.fell(), told.done_turn("mow")), due)

    def test_rows_of_pieces_that_are_changed_behind(self):
        rows = list(ROWS)
        pieces = Pieces(rows)
        told = run(pieces, {})
        rows.clear()
        self.assertEqual(told.ends(), due_ends(Pieces(ROWS), {}))
        self.assertEqual(pieces.told(), ROWS)

    def test_what_is_told_and_changed_behind(self):
        pieces = Pieces([("a", 0, 1, 2), ("b", 0, 1, 2)])
        told = run(pieces, {"a": 1})
        told.rows().clear()
        told.ends().append(("a", 9, 9, "done"))
        told.late().remove("a")
        told.fell()["b"] = 7
        self.assertEqual(told.rows(), due_rows(pieces, {"a": 1}))
        self.assertEqual(told.ends(), due_ends(pieces, {"a": 1}))
        self.assertEqual(told.late(), ["a", "b"])
        self.assertEqual(told.fell(), {"a": 1})

    def test_kinds(self):
        told = run(Pieces(ROWS), {"mow": 1})
        for rows in (told.rows(), told.ends()):
            self.assertIs(type(rows), list)
            self.assertEqual({type(row) for row in rows}, {tuple})
        self.assertEqual((type(told.late()), type(told.fell())), (list, dict))

    def test_the_same_question_has_an_equal_answer(self):
        for counts in ({}, {"mow": 2}, {"oil": 3, "hay": 1}):
            one = run(Pieces(ROWS), counts)
            two = run(Pieces(list(ROWS)), dict(counts))
            for told in (one, two):
                self.assertEqual(told.rows(), one.rows())
                self.assertEqual(told.ends(), one.ends())
                self.assertEqual(told.late(), one.late())
                self.assertEqual(told.fell(), one.fell())

    def test_names_change_no_number(self):
        others = Pieces([(f"x{at}", *row[1:]) for at, row in enumerate(ROWS)])
        one = run(Pieces(ROWS), {"mow": 2, "oil": 1})
        two = run(others, {"x0": 2, "x2": 1})
        self.assertEqual([end[1:] for end in one.ends()], [end[1:] for end in two.ends()])

    def test_each_method_stands_in_the_class(self):
        for name in ("rows", "ends", "done_turn", "late", "fell"):
            self.assertIn(name, vars(Run))


if __name__ == "__main__":
    unittest.main()
