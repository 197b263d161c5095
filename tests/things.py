"""Things of all kinds, handed in where a point says "of any thing", a way to see a refusal's values, and many pieces."""

import copy
import itertools
import random

from failslack.pieces import Pieces


def deep(thing, many):
    for _ in range(many):
        thing = [thing]
    return thing


PLAIN = [
    True, False, None,
    0, 1, -1, 7, 12, 13, 29, 30, 31, 199, 200, 201, 10 ** 29, -(10 ** 29), 10 ** 30 - 1, -(10 ** 30 - 1),
    "", " ", "\n", "0", "1", "00", "07", "-1", "+1", "1.0", "9999", "10000", "a", "A", "a1", "1a", "mow", "Mow",
    "abcdefgh", "abcdefghi", "a b", "a_b", "a-b", "~", "mow 3 40 5", "form", "a" * 1000,
]

INNER = [
    [], [0], [True], [None], ["mow"], [[]], [()], [{}], ["mow", 3, 40, 5], [("mow", 3, 40, 5)], [["mow", 3, 40, 5]],
    (), (0,), (True,), ("mow",), ([],), ({},), (("mow", 3, 40, 5),), ("mow", 3, 40), ("mow", 3, 40, 5),
    ("mow", 3, 40, 5, 5), ("mow", 3, 40, 5, 5, 5), (["mow"], 3, 40, 5), (0, 199), (5, 4), (5, 3), (0, -1), (True, 5),
    [0, 199], (0, 199, 0), (3, "mow"), [(3, "mow")], [[3, "mow"]], [(3, "mow", 5)], [(3, 40, 5, 38)],
    {}, {"mow": 1}, {"mow": True}, {"mow": 201}, {"mow": -1}, {"mow": "1"}, {"mow": [1]}, {"Mow": 1}, {True: 1}, {0: 1},
    {None: []}, {("mow",): {}}, {"rows": [("mow", 3, 40, 5)]},
    deep(0, 10), deep("mow", 10), [0] * 3000, (None,) * 3000,
]


def all_things():
    """All of them, new each time, so that no test sees what another one did to them."""
    return copy.deepcopy(PLAIN + INNER)


def refusal(case, error, call, *handed):
    """The error with which the call is refused, of just this class."""
    with case.assertRaises(error) as caught:
        call(*handed)
    case.assertIs(type(caught.exception), error)
    return caught.exception


def is_int(thing, low, high):
    """Whether it is a whole number from low to high, by other words than the package's own."""
    return type(thing) is int and thing in range(low, high + 1)


def pieces_by(chance, most_pieces, most_turn, most_length):
    """Pieces that a seeded chance makes, also with empty windows and with nothing left."""
    rows = []
    for at in range(chance.randint(0, most_pieces)):
        first = chance.randint(0, most_turn)
        last = chance.randint(max(0, first - 1), most_turn)
        length = chance.randint(1, most_length)
        rows.append((f"p{at}", first, last, length, chance.randint(0, length)))
    return Pieces(rows)


def small_pieces(many):
    """So many pieces of few turns, the same each time, so that all that may fail can be gone through."""
    chance = random.Random(many)
    return [pieces_by(chance, 4, 12, 4) for _ in range(many)]


def loose_pieces(many):
    """So many pieces of few turns that mostly bear some failings, the same each time."""
    chance = random.Random(many)
    told = []
    for _ in range(many):
        firsts = [chance.randint(0, 8) for _ in range(chance.randint(2, 4))]
        lengths = [chance.randint(1, 3) for _ in firsts]
        told.append(Pieces([(f"p{at}", first, first + chance.randint(2, 16), length, chance.randint(0, length))
                            for at, (first, length) in enumerate(zip(firsts, lengths))]))
    return told


def wide_pieces(many):
    """So many pieces up to all bounds, the same each time."""
    chance = random.Random(many)
    return [pieces_by(chance, 30, 199, 12) for _ in range(many)]


def thirty_pieces():
    """As many pieces as there may be, of all lengths, with windows of all sorts."""
    return Pieces([(f"q{at}", at * 5, min(199, at * 8 + 20), at % 12 + 1, at % 4) for at in range(30)])


def all_counts(pieces, most):
    """All counts of the pieces that are together at most so many, also such in which a 0 stands."""
    names = pieces.names()
    return [dict(zip(names, numbers)) for numbers in itertools.product(range(most + 1), repeat=len(names))
            if sum(numbers) <= most]


def all_stretches(low, high):
    """All stretches from low to high, also those without turns."""
    return [(start, end) for start in range(low, high + 2) for end in range(start - 1, high + 1)]
