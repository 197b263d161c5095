"""Point 125: the text of a series."""

import copy
import unittest

from failslack.errors import BadSeries, BadText
from failslack.series import Series
from failslack.seriestext import read_series, show_series
from tests.test_series import ROWS, some_series
from tests.things import all_things, refusal

TEXT = "mow 3 10 2 40 4\nhay 0 5 1 3 3\noil 43 100 12 200 1"


class TextTest(unittest.TestCase):
    def bad(self, at, why, text):
        error = refusal(self, BadText, read_series, text)
        self.assertEqual((error.at, error.why), (at, why), text)

    def test_there_and_back(self):
        self.assertEqual(show_series(Series(ROWS)), TEXT)
        self.assertIs(type(read_series(TEXT)), Series)
        self.assertEqual(read_series(TEXT).told(), ROWS)
        for series in some_series():
            text = show_series(series)
            again = read_series(text)
            self.assertEqual(again.told(), series.told())
            self.assertEqual(again.pieces().told(), series.pieces().told())
            self.assertEqual(show_series(again), text)

    def test_the_text_without_signs(self):
        self.assertEqual(show_series(Series([])), "")
        self.assertEqual(read_series("").told(), ())

    def test_what_is_no_text(self):
        for thing in [[TEXT], (TEXT,), {TEXT: 1}, *all_things()]:
            if not isinstance(thing, str):
                self.bad(0, "form", thing)

    def test_any_text_that_is_none(self):
        for thing in all_things():
            if isinstance(thing, str) and thing != "":
                self.bad(0, "form", thing)

    def test_each_line_without_a_form(self):
        good = "mow 3 10 2 40 4"
        for line in ("", " ", f" {good}", f"{good} ", "mow  3 10 2 40 4", "mow 3 10 2 40", f"{good} 4",
                     "Mow 3 10 2 40 4", "1a 3 10 2 40 4", "abcdefghi 3 10 2 40 4", "mow 03 10 2 40 4",
                     "mow 3 10 2 40 00", "mow -3 10 2 40 4", "mow 3 10 2 +40 4", "mow 3 10 2 40 x",
                     "mow 3 10000 2 40 4", "mow 3 10  40 4", "mow 3 10 2 40 4\t"):
            self.bad(0, "form", f"{line}\n{good}")
            self.bad(1, "form", f"{good}\n{line}")
            self.bad(1, "form", f"{good}\n{line}\n{good}\n{line}")
        self.bad(1, "form", f"{good}\n")
        self.bad(0, "form", f"\n{good}")
        self.bad(0, "form", "\n")

    def test_what_is_wrong_with_a_series(self):
        for text, at, why in (
            ("abcdefg 3 10 2 40 4", 0, "name"), ("abcdefgh 3 10 2 40 4", 0, "name"),
            ("mow 3 10 2 40 4\nmow 3 10 2 40 4", 1, "double"), ("mow 200 10 2 40 4", 0, "first"),
            ("mow 3 0 2 40 4", 0, "window"), ("mow 3 201 2 40 4", 0, "window"), ("mow 3 10 13 40 4", 0, "length"),
            ("mow 3 10 2 0 4", 0, "every"), ("mow 3 10 2 40 31", 0, "times"), ("mow 3 10 2 40 9999", 0, "times"),
            ("mow 3 10 2 40 6", 0, "last"), ("a 0 1 1 1 11\na1 0 1 1 1 1", 1, "meets"),
            ("a 0 1 1 1 30\nb 0 1 1 1 1", 1, "together"),
        ):
            self.bad(at, why, text)

    def test_a_form_goes_ahead_of_what_is_wrong_with_a_series(self):
        self.bad(1, "form", "mow 200 10 2 40 4\nmow")
        self.bad(2, "form", "mow 3 10 2 40 4\nmow 3 10 2 40 4\n")

    def test_many_rows(self):
        rows = [f"r{at} 0 1 1 1 1" for at in range(31)]
        self.assertEqual(len(read_series("\n".join(rows[:30])).told()), 30)
        self.bad(30, "many", "\n".join(rows))
        self.bad(31, "form", "\n".join([*rows, "x"]))
        self.bad(33, "form", "\n".join([*rows, *rows[:2], "x"]))

    def test_as_a_series_is_refused(self):
        lines = ("mow 3 10 2 40 4", "mow1 3 10 2 40 1", "mow 0 1 1 1 1", "a 199 1 1 1 1", "a1 199 2 1 1 1", "b 0 0 0 0 0")
        for one in lines:
            for two in lines:
                rows = [tuple(int(word) if word.isdigit() else word for word in line.split(" ")) for line in (one, two)]
                try:
                    due = Series(rows).told()
                except BadSeries as error:
                    self.bad(error.at, error.why, f"{one}\n{two}")
                else:
                    self.assertEqual(read_series(f"{one}\n{two}").told(), due)

    def test_what_is_handed_in_is_not_changed(self):
        for thing in all_things():
            before = copy.deepcopy(thing)
            if thing != "":
                refusal(self, BadText, read_series, thing)
            self.assertEqual(thing, before)

    def test_the_same_question_has_an_equal_answer(self):
        one = Series(ROWS)
        self.assertEqual(show_series(one), show_series(one))
        self.assertEqual(read_series(TEXT).told(), read_series(TEXT).told())
        self.assertEqual(one.told(), ROWS)


if __name__ == "__main__":
    unittest.main()
