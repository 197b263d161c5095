"""Point 33: runs in which a function is asked of each try."""

import unittest

from failslack.errors import NoFailings
from failslack.pieces import Pieces
from failslack.runs import Run, run, run_asking
from tests.things import all_counts, all_things, is_int, refusal, small_pieces, thirty_pieces

ROWS = (("z", 4, 20, 2, 0), ("w", 0, 30, 4), ("x", 4, 9, 1, 0), ("y", 5, 9, 1, 0))


class Asked:
    """A function that remembers of which tries it was asked."""

    def __init__(self, tells):
        self.tells = tells
        self.tries = []

    def __call__(self, name, number):
        self.tries.append((name, number))
        return self.tells(name, number)


def always(name, number):
    return True


def never(name, number):
    return False


def shown(told):
    return (told.rows(), told.ends(), told.late(), list(told.fell().items()))


class AskingTest(unittest.TestCase):
    def asked(self, pieces, tells, most):
        """The run and the tries that were asked of, which are the first ones of all until enough failed."""
        asked = Asked(tells)
        told = run_asking(pieces, asked, most)
        self.assertIs(type(told), Run)
        due = []
        failed = 0
        for name, number, _, word in told.ends():
            if failed < most:
                due.append((name, number))
            else:
                self.assertEqual(word, "done")
            failed += word == "failed"
        self.assertEqual(asked.tries, due)
        self.assertLessEqual(failed, most)
        # Once the failings are known, it is the run for these counts.
        self.assertEqual(shown(told), shown(run(pieces, told.fell())))
        return told, asked.tries

    def test_nothing_fails(self):
        told, tries = self.asked(Pieces(ROWS), never, 200)
        self.assertEqual(tries, [("w", 0), ("z", 0), ("x", 0), ("y", 0)])
        self.assertEqual(told.fell(), {})

    def test_the_order_of_the_tries(self):
        told, tries = self.asked(Pieces(ROWS), lambda name, number: number == 0, 200)
        self.assertEqual(tries, [
            ("w", 0), ("z", 0), ("x", 0), ("x", 1), ("y", 0), ("y", 1), ("z", 1), ("w", 1),
        ])
        self.assertEqual(told.fell(), {"z": 1, "w": 1, "x": 1, "y": 1})

    def test_most_nought(self):
        told, tries = self.asked(Pieces(ROWS), always, 0)
        self.assertEqual(tries, [])
        self.assertEqual(shown(told), shown(run(Pieces(ROWS), {})))

    def test_most_one(self):
        told, tries = self.asked(Pieces(ROWS), always, 1)
        self.assertEqual(tries, [("w", 0)])
        self.assertEqual(told.fell(), {"w": 1})
        told, tries = self.asked(Pieces(ROWS), lambda name, number: name == "x", 1)
        self.assertEqual(tries, [("w", 0), ("z", 0), ("x", 0)])
        self.assertEqual(told.fell(), {"x": 1})

    def test_most_two_within_one_turn(self):
        told, tries = self.asked(Pieces(ROWS), always, 2)
        self.assertEqual(tries, [("w", 0), ("z", 0)])
        self.assertEqual(told.fell(), {"z": 1, "w": 1})

    def test_most_two_hundred(self):
        told, tries = self.asked(Pieces([("a", 0, 9, 1), ("b", 0, 8, 2)]), always, 200)
        self.assertEqual(tries, [("b", number) for number in range(200)])
        self.assertEqual(told.fell(), {"b": 200})
        self.assertEqual(told.done_turn("b"), 401)
        self.assertEqual(told.ends()[-1], ("a", 0, 402, "done"))

    def test_ahead_of_all_turns(self):
        told, tries = self.asked(Pieces([("b", 0, 9, 2, 0), ("a", 0, 3, 1, 0)]), lambda name, number: name == "a", 2)
        self.assertEqual(tries, [("b", 0), ("a", 0), ("a", 1)])
        self.assertEqual(told.ends(), [
            ("b", 0, -1, "done"), ("a", 0, -1, "failed"), ("a", 1, 0, "failed"), ("a", 2, 1, "done"),
        ])

    def test_no_pieces(self):
        for most in (0, 1, 200):
            told, tries = self.asked(Pieces([]), always, most)
            self.assertEqual((tries, shown(told)), ([], ([], [], [], [])))

    def test_it_may_remember_what_it_told(self):
        told_so_far = []

        def each_other(name, number):
            told_so_far.append(name)
            return len(told_so_far) % 2 == 1

        told, tries = self.asked(Pieces([("a", 0, 9, 2), ("b", 0, 30, 1)]), each_other, 3)
        self.assertEqual(tries, [("a", 0), ("a", 1), ("b", 0), ("b", 1)])
        self.assertEqual(told.fell(), {"a": 1, "b": 1})

    def test_all_counts_of_small_pieces(self):
        for pieces in small_pieces(40):
            for counts in all_counts(pieces, 2):
                for most in (sum(counts.values()), 200):
                    told, _ = self.asked(pieces, lambda name, number: number < counts[name], most)
                    self.assertEqual(shown(told), shown(run(pieces, counts)))
            for most in (0, 1, 2, 5):
                self.asked(pieces, always, most)
                self.asked(pieces, lambda name, number: (number + len(pieces.names())) % 3 == 0, most)

    def test_thirty_pieces(self):
        for most in (0, 1, 17, 200):
            self.asked(thirty_pieces(), lambda name, number: number % 4 == int(name[1:]) % 3, most)

    def test_nothing_is_asked_for_what_is_told_behind(self):
        asked = Asked(lambda name, number: number < 2)
        told = run_asking(Pieces(ROWS), asked, 200)
        before = list(asked.tries)
        for _ in range(2):
            shown(told)
            told.done_turn("z")
        self.assertEqual(asked.tries, before)

    def test_lists_that_are_told_and_changed_behind(self):
        told = run_asking(Pieces(ROWS), always, 1)
        due = shown(told)
        told.rows().clear()
        told.ends().clear()
        told.fell().clear()
        self.assertEqual(shown(told), due)


class RefusalTest(unittest.TestCase):
    def test_any_thing_as_most(self):
        for thing in [*all_things(), 201, 202, 300, -1, -2]:
            asked = Asked(never)
            for pieces in (Pieces(ROWS), Pieces([])):
                if is_int(thing, 0, 200):
                    self.assertEqual(run_asking(pieces, asked, thing).fell(), {})
                else:
                    self.assertIs(refusal(self, NoFailings, run_asking, pieces, asked, thing).found, thing)
                    self.assertEqual(asked.tries, [])


if __name__ == "__main__":
    unittest.main()
