"""Points 2 and 11, and failslack/words.py under the interface."""

import unittest

from failslack.words import is_name, is_whole, is_within, number_of
from tests.things import all_things

BIG = 10 ** 29
NO_NUMBERS = (True, False, None, "", "0", "7", "a", [], [1], [True], (), (1,), {}, {1: 1}, {"a": 0})


class WholeTest(unittest.TestCase):
    def test_whole_numbers(self):
        for thing in (0, 1, -1, 199, 200, BIG, -BIG, 10 * BIG - 1, 1 - 10 * BIG):
            self.assertIs(is_whole(thing), True, thing)

    def test_other_things_are_no_whole_numbers(self):
        for thing in NO_NUMBERS:
            self.assertIs(is_whole(thing), False, thing)

    def test_of_any_thing_a_truth_is_told(self):
        for thing in all_things():
            self.assertIs(is_whole(thing), type(thing) is int)


class WithinTest(unittest.TestCase):
    def test_both_bounds_count(self):
        for low, high in ((0, 0), (0, 12), (-3, 3), (-5, -4), (-BIG, BIG), (BIG, BIG + 2)):
            for thing in (low, high, (low + high) // 2):
                self.assertIs(is_within(thing, low, high), True, (thing, low, high))
            for thing in (low - 1, high + 1, low - BIG, high + BIG):
                self.assertIs(is_within(thing, low, high), False, (thing, low, high))

    def test_nothing_is_within_bounds_that_are_the_wrong_way_round(self):
        for low, high in ((1, 0), (12, 3), (3, -3), (BIG, -BIG)):
            for thing in (low, high, (low + high) // 2, low + 1, high - 1, 0, True, None, "5"):
                self.assertIs(is_within(thing, low, high), False, (thing, low, high))

    def test_what_is_no_number_is_never_within(self):
        for thing in NO_NUMBERS:
            for low, high in ((-BIG, BIG), (0, 1), (1, 0), (0, 0), (1, 1)):
                self.assertIs(is_within(thing, low, high), False, (thing, low, high))

    def test_of_any_thing_a_truth_is_told(self):
        for thing in all_things():
            due = type(thing) is int and thing in range(0, 200)
            self.assertIs(is_within(thing, 0, 199), due)


class NameTest(unittest.TestCase):
    def test_names(self):
        for thing in ("a", "z", "m", "mow", "a0", "z9", "a1b2c3d4", "abcdefgh", "zzzzzzzz", "x0000000", "x9999999"):
            self.assertIs(is_name(thing), True, thing)

    def test_each_small_letter_goes_in_front_and_each_figure_only_behind(self):
        for sign in "abcdefghijklmnopqrstuvwxyz":
            self.assertIs(is_name(sign), True)
            self.assertIs(is_name("a" + sign), True)
        for sign in "0123456789":
            self.assertIs(is_name(sign), False)
            self.assertIs(is_name(sign + "a"), False)
            self.assertIs(is_name("a" + sign), True)

    def test_no_other_sign_stands_anywhere(self):
        good = "abcdefghijklmnopqrstuvwxyz0123456789"
        for sign in [chr(code) for code in range(256) if chr(code) not in good]:
            for thing in (sign, sign + "a", "a" + sign, "a" + sign + "b", "abcdefg" + sign):
                self.assertIs(is_name(thing), False, thing)

    def test_lengths(self):
        self.assertIs(is_name(""), False)
        for many in range(1, 12):
            self.assertIs(is_name("a" * many), many <= 8, many)
            self.assertIs(is_name("a" + "1" * (many - 1)), many <= 8, many)
        self.assertIs(is_name("abcdefghi"), False)
        self.assertIs(is_name("a" * 1000), False)

    def test_capitals_and_things_of_other_kinds(self):
        for thing in ("A", "Mow", "moW", "MOW", "a\n", "\na", " a", "a "):
            self.assertIs(is_name(thing), False, thing)
        for thing in (True, False, None, 0, 1, BIG, [], ["a"], ["a", "b"], (), ("a",), ("a", "b"), {}, {"a": 1}):
            self.assertIs(is_name(thing), False, thing)

    def test_of_any_thing_a_truth_is_told(self):
        names = ("a", "a1", "mow", "abcdefgh", "form")
        for thing in all_things():
            self.assertIs(is_name(thing), isinstance(thing, str) and thing in names)


class NumberTest(unittest.TestCase):
    def test_all_figures_are_read(self):
        for number in range(10000):
            told = number_of(str(number))
            self.assertEqual(told, number)
            self.assertIs(type(told), int)

    def test_nought_in_front(self):
        self.assertEqual(number_of("0"), 0)
        for text in ("00", "07", "000", "0000", "0001", "010", "0999", "00000"):
            self.assertIsNone(number_of(text), text)

    def test_too_many_figures(self):
        self.assertEqual(number_of("9999"), 9999)
        for text in ("10000", "99999", "12345678", "1" * 30, "1" * 1000):
            self.assertIsNone(number_of(text), text)

    def test_other_signs(self):
        for sign in [chr(code) for code in range(256) if chr(code) not in "0123456789"] + ["\u0661", "\uff11"]:
            for text in (sign, "1" + sign, sign + "1", "1" + sign + "1", "12" + sign + "3"):
                self.assertIsNone(number_of(text), text)

    def test_things_of_other_kinds(self):
        for thing in (True, False, None, 0, 1, 7, -7, BIG, -BIG, "", [], ["7"], ["1", "2"], (), ("7",), {}, {"7": 7}):
            self.assertIsNone(number_of(thing), thing)

    def test_of_any_thing_a_number_or_none_is_told(self):
        due = {"0": 0, "1": 1, "9999": 9999}
        for thing in all_things():
            told = number_of(thing)
            self.assertEqual(told, due.get(thing) if isinstance(thing, str) else None)


if __name__ == "__main__":
    unittest.main()
