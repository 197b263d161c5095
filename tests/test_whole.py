"""Point 9 over the whole program: refused pieces, what is to spare, rest, series; other names and another order."""

import random
import unittest

from failslack.bearing import borne, borne_papers, each_borne, tight
from failslack.desk import Desk
from failslack.errors import SlackError
from failslack.hindsight import earlier_start, fewer, instead_of, later_end
from failslack.lazy import eager_and_lazy, first_work, lazily, most_rest
from failslack.orders import does
from failslack.pieces import Pieces
from failslack.runs import run
from failslack.series import Series, borne_by, tightest
from failslack.seriestext import read_series, show_series
from failslack.spare import first_spare, last_spare, left_spare, length_spare, off_spare, spares
from failslack.stretches import stretches
from failslack.texts import show_pieces
from failslack.weighing import is_kept, table, too_short
from failslack.worst import chain, worst, worst_turns
from tests.test_series import some_series
from tests.test_spare import otherwise, with_other
from tests.things import all_counts, loose_pieces, small_pieces, thirty_pieces, wide_pieces

SPARES = (last_spare, first_spare, length_spare, left_spare)


def kept_ones(many, failings):
    """Small pieces that are kept for these failings."""
    return [pieces for pieces in [*small_pieces(many), *loose_pieces(many)] if is_kept(pieces, failings)]


def can_be_done(pieces, failings):
    """Whether all can be done whatever fails, by going through all counts."""
    return all(not run(pieces, counts).late() for counts in all_counts(pieces, failings))


class KeptTest(unittest.TestCase):
    def test_kept_just_where_no_worst_turn_is_behind_a_last_turn(self):
        seen = set()
        for pieces in [*small_pieces(80), *loose_pieces(80), *wide_pieces(4), thirty_pieces()]:
            for failings in (0, 1, 2, 5):
                late = any(turn > pieces.row(name)[2] for name, turn in worst_turns(pieces, failings).items())
                self.assertEqual(is_kept(pieces, failings), not late)
                seen.add(late)
        self.assertEqual(seen, {True, False})

    def test_kept_just_where_all_counts_can_be_done(self):
        seen = set()
        for pieces in [*small_pieces(40), *loose_pieces(40)]:
            for failings in (0, 1, 2):
                self.assertEqual(is_kept(pieces, failings), can_be_done(pieces, failings))
                seen.add(is_kept(pieces, failings))
        self.assertEqual(seen, {True, False})

    def test_what_is_borne_is_exact_by_all_counts(self):
        for pieces in [*small_pieces(40), *loose_pieces(40)]:
            number = borne(pieces)
            if number is not None and number <= 2:
                if number >= 0:
                    self.assertIs(can_be_done(pieces, number), True)
                self.assertIs(can_be_done(pieces, number + 1), False)


def new_row(chance):
    """A row that is often refused."""
    first = chance.randint(1, 12)
    length = chance.randint(1, 3)
    return ("new", first, first + chance.randint(-1, 6), length, chance.randint(1, length))


class RefusedTest(unittest.TestCase):
    def test_so_many_are_enough_and_one_fewer_are_not(self):
        chance = random.Random(7)
        found = [0, 0]
        for failings in (0, 1, 2):
            for pieces in kept_ones(60, failings):
                row = new_row(chance)
                if is_kept(pieces.with_row(row), failings):
                    continue
                for at, (told, other) in enumerate((
                    (later_end(pieces, failings, row), lambda many: (row[0], row[1], row[2] + many, *row[3:])),
                    (earlier_start(pieces, failings, row), lambda many: (row[0], row[1] - many, *row[2:])),
                )):
                    if told is None:
                        continue
                    found[at] += 1
                    self.assertIs(can_be_done(pieces.with_row(other(told[0])), failings), True)
                    worse = pieces.with_row(other(told[0] - 1))
                    self.assertIs(does(worse, told[2].counts(), run(worse, told[2].counts()).rows()), False)
        self.assertGreater(min(found), 20)

    def test_none_would_let_it_in(self):
        chance = random.Random(8)
        found = 0
        for pieces in kept_ones(60, 1):
            row = new_row(chance)
            if not is_kept(pieces.with_row(row), 1) and earlier_start(pieces, 1, row) is None:
                found += 1
                for first in range(row[1] + 1):
                    self.assertIs(is_kept(pieces.with_row((row[0], first, *row[2:])), 1), False)
        self.assertGreater(found, 3)

    def test_for_fewer_failings_it_can_be_done(self):
        chance = random.Random(9)
        for pieces in kept_ones(40, 2):
            row = new_row(chance)
            if not is_kept(pieces.with_row(row), 2) and fewer(pieces, 2, row) >= 0:
                self.assertIs(can_be_done(pieces.with_row(row), fewer(pieces, 2, row)), True)


class SpareTest(unittest.TestCase):
    def test_otherwise_by_so_many_all_can_be_done_and_by_one_more_not(self):
        tested = 0
        for failings in (0, 1, 2):
            for pieces in kept_ones(25, failings):
                for name in pieces.names():
                    for kind, call in enumerate(SPARES):
                        number, kept, crowd = call(pieces, failings, name)
                        row = pieces.row(name)
                        self.assertIs(can_be_done(with_other(pieces, otherwise(kind, row, number)), failings), True)
                        if crowd is not None:
                            tested += 1
                            worse = with_other(pieces, otherwise(kind, row, number + 1))
                            self.assertNotEqual(run(worse, crowd.counts()).late(), [])
        self.assertGreater(tested, 100)


class RestTest(unittest.TestCase):
    def test_who_rests_whenever_it_may_be_keeps_all_promises(self):
        tested = 0
        for failings in (0, 1, 2, 3):
            for pieces in kept_ones(40, failings):
                for counts in all_counts(pieces, failings)[::1 + failings // 2]:
                    told = lazily(pieces, failings, counts)
                    self.assertEqual(told.late(), [])
                    self.assertIs(does(pieces, counts, told.rows()), True)
                    tested += 1
        self.assertGreater(tested, 300)

    def test_who_rests_as_long_as_may_be_and_works_then(self):
        for failings in (0, 1, 2):
            for pieces in kept_ones(40, failings):
                number, kept, crowd = most_rest(pieces, failings, 0)
                later = pieces.since(number)
                self.assertIs(can_be_done(later, failings), True)
                if crowd is not None:
                    self.assertIs(can_be_done(pieces.since(number + 1), failings), False)


class SeriesTest(unittest.TestCase):
    def test_a_series_is_taken_as_its_pieces(self):
        for series in some_series():
            pieces = Pieces(series.pieces().told())
            self.assertEqual(borne_by(series), borne(pieces))
            for failings in (0, 1, 2):
                self.assertEqual(is_kept(series.pieces(), failings), is_kept(pieces, failings))
                if is_kept(pieces, failings):
                    self.assertEqual(lazily(series.pieces(), failings, {}).late(), [])
                    self.assertEqual(run(series.pieces(), {}).late(), [])
            self.assertEqual(worst_turns(series.pieces(), 1), worst_turns(pieces, 1))


def renamed(name):
    """Another name of a piece."""
    return f"z{name[::-1]}" if name is not None else None


def with_other_names(pieces):
    return Pieces([(renamed(row[0]), *row[1:]) for row in pieces.told()])


def renamed_dict(told):
    return {renamed(name): thing for name, thing in told.items()}


def renamed_run(told):
    return ([(turn, renamed(name)) for turn, name in told.rows()],
            [(renamed(name), *rest) for name, *rest in told.ends()])


class NamesTest(unittest.TestCase):
    def test_what_is_weighed(self):
        for pieces in [*small_pieces(40), *loose_pieces(40), thirty_pieces()]:
            other = with_other_names(pieces)
            for call in (stretches, borne, tight):
                self.assertEqual(call(other), call(pieces))
            self.assertEqual(each_borne(other), renamed_dict(each_borne(pieces)))
            for failings in (0, 1, 3):
                for call in (table, too_short, is_kept):
                    self.assertEqual(call(other, failings), call(pieces, failings))
                self.assertEqual(worst_turns(other, failings), renamed_dict(worst_turns(pieces, failings)))
                for name in pieces.names():
                    turn, counts = worst(pieces, failings, name)
                    self.assertEqual(worst(other, failings, renamed(name)), (turn, renamed_dict(counts)))
                    self.assertEqual(chain(other, failings, renamed(name))[0], chain(pieces, failings, name)[0])

    def test_runs_spares_and_rest(self):
        for pieces in loose_pieces(40):
            other = with_other_names(pieces)
            for failings in (0, 1, 2):
                for counts in all_counts(pieces, failings)[:20]:
                    told = run(other, renamed_dict(counts))
                    self.assertEqual((told.rows(), told.ends()), renamed_run(run(pieces, counts)))
                if is_kept(pieces, failings):
                    self.assertEqual(spares(other, failings), renamed_dict(spares(pieces, failings)))
                    told = lazily(other, failings, {})
                    self.assertEqual((told.rows(), told.ends()), renamed_run(lazily(pieces, failings, {})))
                    self.assertEqual(most_rest(other, failings, 0)[0], most_rest(pieces, failings, 0)[0])
                    for name in pieces.names():
                        self.assertEqual(first_work(other, failings, renamed(name)), first_work(pieces, failings, name))

    def test_hindsight(self):
        chance = random.Random(3)
        for pieces in kept_ones(60, 1):
            row = new_row(chance)
            other = with_other_names(pieces)
            if is_kept(pieces.with_row(row), 1):
                continue
            for call in (later_end, earlier_start):
                one = call(pieces, 1, row)
                two = call(other, 1, row)
                self.assertEqual(one and one[0], two and two[0])
            self.assertEqual(fewer(other, 1, row), fewer(pieces, 1, row))
            self.assertEqual([name for name, _ in instead_of(other, 1, row)],
                             [renamed(name) for name, _ in instead_of(pieces, 1, row)])

    def test_a_desk(self):
        lines = ("ask NAMEA 3 40 5", "ask NAMEB 10 20 4", "ask NAMEC 0 30 3", "work 4", "pieces", "latest", "failed",
                 "paper", "bears", "later NAMEB 10 20 4", "instead NAMEB 0 9 4", "work 9", "done", "state NAMEC", "rest",
                 "longer NAMEA 60", "latest", "work 9", "failed", "left", "off NAMEA", "pieces")
        told = []
        for names in (("a", "b", "c"), ("zz", "m", "a1")):
            desk = Desk(2)
            said = []
            for line in lines:
                for place, name in zip(("NAMEA", "NAMEB", "NAMEC"), names):
                    line = line.replace(place, name)
                try:
                    said.append(self.places(desk.say(line), names))
                except SlackError as error:
                    said.append(type(error))
            told.append(said)
        self.assertEqual(told[0], told[1])

    def places(self, said, names):
        return " ".join(str(names.index(word.strip(";"))) + "x" if word.strip(";") in names else word
                        for word in said.split(" "))

    def test_a_series(self):
        one = Series([("mow", 3, 10, 2, 40, 4), ("hay", 3, 10, 4, 80, 2)])
        two = Series([("z", 3, 10, 2, 40, 4), ("a", 3, 10, 4, 80, 2)])
        self.assertEqual(borne_by(one), borne_by(two))
        self.assertEqual(list(tightest(one).values()), list(tightest(two).values()))
        self.assertEqual([row[1:] for row in one.pieces().told()], [row[1:] for row in two.pieces().told()])
        self.assertEqual(read_series(show_series(two)).told(), two.told())


class OrderTest(unittest.TestCase):
    def mixed(self, pieces, seed):
        rows = list(pieces.told())
        random.Random(seed).shuffle(rows)
        return Pieces(rows)

    def test_no_number_that_is_weighed_hangs_on_the_order(self):
        for seed, pieces in enumerate([*small_pieces(40), *loose_pieces(40), thirty_pieces()]):
            other = self.mixed(pieces, seed)
            for call in (stretches, borne, tight, each_borne):
                self.assertEqual(call(other), call(pieces))
            self.assertEqual([paper and paper.told() for paper in borne_papers(other)[1:]],
                             [paper and paper.told() for paper in borne_papers(pieces)[1:]])
            for name in pieces.names():
                self.assertEqual(off_spare(other, name), off_spare(pieces, name))
            for failings in (0, 1, 2):
                for call in (table, too_short, is_kept):
                    self.assertEqual(call(other, failings), call(pieces, failings))
                if is_kept(pieces, failings) and len(pieces.names()) < 9:
                    self.assertEqual(spares(other, failings), spares(pieces, failings))
                    self.assertEqual(list(spares(other, failings)), other.names())
                    self.assertEqual(most_rest(other, failings, 3)[0] if is_kept(pieces.since(3), failings) else None,
                                     most_rest(pieces, failings, 3)[0] if is_kept(pieces.since(3), failings) else None)

    def test_runs_of_pieces_whose_last_turns_are_not_alike(self):
        tested = 0
        for seed, pieces in enumerate(loose_pieces(100)):
            lasts = [row[2] for row in pieces.told()]
            if len(set(lasts)) < len(lasts):
                continue
            tested += 1
            other = self.mixed(pieces, seed)
            self.assertEqual(worst_turns(other, 2), worst_turns(pieces, 2))
            for counts in all_counts(pieces, 2)[:20]:
                one = run(pieces, counts)
                two = run(other, counts)
                self.assertEqual((one.rows(), sorted(one.ends())), (two.rows(), sorted(two.ends())))
            for failings in (0, 1, 2):
                if is_kept(pieces, failings):
                    self.assertEqual(lazily(other, failings, {}).rows(), lazily(pieces, failings, {}).rows())
                    self.assertEqual(eager_and_lazy(other, failings, {}), eager_and_lazy(pieces, failings, {}))
        self.assertGreater(tested, 30)

    def test_hindsight(self):
        chance = random.Random(5)
        for seed, pieces in enumerate(kept_ones(60, 1)):
            row = new_row(chance)
            other = self.mixed(pieces, seed)
            if is_kept(pieces.with_row(row), 1):
                continue
            for call in (later_end, earlier_start):
                one = call(pieces, 1, row)
                two = call(other, 1, row)
                self.assertEqual(one and one[0], two and two[0])
            self.assertEqual(fewer(other, 1, row), fewer(pieces, 1, row))
            self.assertEqual(sorted(name for name, _ in instead_of(other, 1, row)),
                             sorted(name for name, _ in instead_of(pieces, 1, row)))

    def test_the_order_of_the_rows_of_a_series(self):
        for series in some_series():
            other = Series(series.told()[::-1])
            self.assertEqual(borne_by(other), borne_by(series))
            self.assertEqual(tightest(other), tightest(series))
            self.assertEqual(sorted(show_pieces(other.pieces()).split("\n")),
                             sorted(show_pieces(series.pieces()).split("\n")))


if __name__ == "__main__":
    unittest.main()
