"""Point 85: the states of a piece."""

import unittest

from failslack.states import Begun, Ended, Finished, Off, Open, Refused, State, Waiting

SIX = (Waiting, Begun, Ended, Finished, Off, Refused)


class StatesTest(unittest.TestCase):
    def test_words(self):
        words = [kind().word() for kind in SIX]
        self.assertEqual(words, ["waiting", "begun", "ended", "done", "off", "refused"])

    def test_which_are_open(self):
        for kind in (Waiting, Begun, Ended):
            self.assertIs(kind().is_open(), True)
        for kind in (Finished, Off, Refused):
            self.assertIs(kind().is_open(), False)

    def test_who_stands_under_whom(self):
        self.assertEqual(Open.__bases__, (State,))
        self.assertEqual(State.__bases__, (object,))
        for kind in (Waiting, Begun, Ended):
            self.assertEqual(kind.__bases__, (Open,))
        for kind in (Finished, Off, Refused):
            self.assertEqual(kind.__bases__, (State,))
            self.assertFalse(issubclass(kind, Open))

    def test_none_of_the_six_stands_under_another(self):
        for one in SIX:
            for two in SIX:
                self.assertEqual(issubclass(one, two), one is two)

    def test_each_method_stands_in_its_class(self):
        for kind in (State, Open, *SIX):
            self.assertIn("word", vars(kind))
            self.assertIn("is_open", vars(kind))

    def test_the_same_question_has_an_equal_answer(self):
        for kind in SIX:
            one = kind()
            for other in (one, kind()):
                self.assertEqual((other.word(), other.is_open()), (one.word(), one.is_open()))


if __name__ == "__main__":
    unittest.main()
