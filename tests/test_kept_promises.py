"""Point 87, and what point 9 says of books: whatever fails, what was promised is done in time."""

import copy
import random
import unittest

from failslack.book import Book
from failslack.errors import NoRest
from failslack.weighing import is_kept


def loose_book(chance):
    """A book for which some pieces were asked at its beginning."""
    book = Book(chance.randint(0, 3))
    for at in range(chance.randint(1, 4)):
        first = chance.randint(0, 6)
        book.ask(f"p{at}", first, first + chance.randint(2, 18), chance.randint(1, 3))
    return book


class EachWayTest(unittest.TestCase):
    """Each way that tries of a few pieces may end, and where it may be rested, also that."""

    def goes_on(self, book, lasts, rests):
        self.ways += 1
        while book.pieces().names():
            self.assertIs(is_kept(book.pieces(), book.failings_left()), True)
            if rests and self.may_rest(book):
                continue
            name = book.work()
            if name is not None and book.state(name) == "ended":
                if book.failings_left() > 0:
                    other = copy.deepcopy(book)
                    other.failed()
                    self.goes_on(other, lasts, rests)
                self.assertLessEqual(book.now() - 1, lasts[name])
                book.done()

    def may_rest(self, book):
        """Rests as the book allows."""
        try:
            book.rest()
        except NoRest as error:
            self.assertLessEqual(error.start, error.end + 1)
            return False
        return True

    def test_worked_on_at_once_and_rested_whenever_it_may_be(self):
        self.ways = 0
        for seed in range(60):
            book = loose_book(random.Random(seed))
            lasts = {row[0]: row[2] for row in book.pieces().told()}
            for rests in (False, True):
                self.goes_on(copy.deepcopy(book), lasts, rests)
        self.assertGreater(self.ways, 400)


class LatestTest(unittest.TestCase):
    """In which turn each piece is done at the latest, against each way that tries may end."""

    def looks(self, book, seen):
        while book.pieces().names():
            name = book.work()
            if name is not None and book.state(name) == "ended":
                if book.failings_left() > 0:
                    other = copy.deepcopy(book)
                    other.failed()
                    self.looks(other, seen)
                seen[name] = max(seen.get(name, 0), book.now() - 1)
                book.done()

    def test_the_latest_turns_are_exact(self):
        tested = 0
        for seed in range(80):
            chance = random.Random(seed)
            book = loose_book(chance)
            for _ in range(chance.randint(0, 6)):
                if all(book.state(name) != "ended" for name in book.pieces().names()):
                    book.work()
            ended = [name for name in book.pieces().names() if book.state(name) == "ended"]
            if ended and chance.random() < 0.5:
                book.done()
                ended = []
            latest = book.latest()
            seen = {name: book.now() - 1 for name in ended}
            other = copy.deepcopy(book)
            if ended:
                if other.failings_left() > 0:
                    failed = copy.deepcopy(other)
                    failed.failed()
                    self.looks(failed, seen)
                other.done()
            self.looks(other, seen)
            self.assertEqual(latest, seen)
            tested += len(latest) > 1 and book.failings_left() > 0
        self.assertGreater(tested, 20)


class ManyDeedsTest(unittest.TestCase):
    """Books that go on for long, with new promises on the way; how many failings are borne is looked at throughout."""

    def step(self, chance, book, lasts):
        """One deed; told is its kind, or None where the book refused it by a paper or did not allow a rest."""
        names = book.pieces().names()
        ended = [name for name in names if book.state(name) == "ended"]
        kind = chance.choice(["ask", "work", "work", "work", "rest", "off", "longer"])
        if ended and kind != "off":
            if book.failings_left() > 0 and chance.random() < 0.6:
                book.failed()
                return "failed"
            self.assertLessEqual(book.now() - 1, lasts[ended[0]])
            book.done()
            return "done"
        if kind == "ask" and len(names) < 6:
            first = book.now() + chance.randint(0, 10)
            last = min(199, first + chance.randint(3, 40))
            name = next(name for name in "abcdef" if name not in names)
            if last >= book.now() and last >= first and book.ask(name, first, last, chance.randint(1, 5)).word() == "kept":
                lasts[name] = last
            return "ask"
        if kind == "off" and names and chance.random() < 0.3:
            book.call_off(chance.choice(names))
            return "off"
        if kind == "longer" and names:
            name = chance.choice(names)
            if lasts[name] < 199:
                lasts[name] = chance.randint(lasts[name] + 1, 199)
                book.longer(name, lasts[name])
                return "longer"
        if kind == "rest" and not ended:
            try:
                book.rest()
                return "rest"
            except NoRest:
                pass
        if not ended:
            book.work()
            return "work"
        return None

    def test_all_are_done_in_time_and_what_becomes_of_the_number(self):
        seen = {}
        less = 0
        for seed in range(60):
            chance = random.Random(seed)
            book = Book(chance.randint(0, 12))
            lasts = {}
            while book.now() < 200:
                before = book.bears()
                kind = self.step(chance, book, lasts)
                behind = book.bears()
                seen[kind] = seen.get(kind, 0) + 1
                self.assertIs(is_kept(book.pieces(), book.failings_left()), True)
                if behind is not None:
                    self.assertGreaterEqual(behind, book.failings_left())
                if before is None or behind is None:
                    continue
                if kind == "failed":
                    self.assertGreaterEqual(behind, before - 1)
                    less += behind == before - 1
                if kind in ("work", "done", "off", "longer"):
                    self.assertGreaterEqual(behind, before, kind)
            for name in book.pieces().names():
                self.assertEqual(book.state(name), "ended")
        for kind in ("ask", "work", "rest", "failed", "done", "off", "longer"):
            self.assertGreater(seen[kind], 50, kind)
        self.assertGreater(less, 20)

    def test_behind_the_last_open_piece_there_is_no_number(self):
        book = Book(1)
        book.ask("mow", 0, 9, 1)
        self.assertEqual(book.bears(), 9)
        book.work()
        book.done()
        self.assertIsNone(book.bears())

    def test_a_failing_takes_one_and_a_turn_of_work_none(self):
        book = Book(2)
        book.ask("mow", 0, 11, 4)
        self.assertEqual(book.bears(), 2)
        for _ in range(4):
            book.work()
            self.assertEqual(book.bears(), 2)
        book.failed()
        self.assertEqual(book.bears(), 1)

    def test_what_goes_and_what_may_be_later_makes_it_more(self):
        book = Book(0)
        book.ask("mow", 0, 11, 4)
        book.ask("hay", 0, 11, 6)
        self.assertEqual(book.bears(), 0)
        book.longer("hay", 21)
        self.assertEqual(book.bears(), 2)
        book.call_off("mow")
        self.assertEqual(book.bears(), 2)
        book.longer("hay", 23)
        self.assertEqual(book.bears(), 3)


if __name__ == "__main__":
    unittest.main()
