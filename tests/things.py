"""Things of all kinds, handed in where a point says "of any thing", and a way to see a refusal's values."""

import copy


def deep(thing, many):
    for _ in range(many):
        thing = [thing]
    return thing


PLAIN = [
    True, False, None,
    0, 1, -1, 7, 12, 13, 29, 30, 31, 199, 200, 201, 10 ** 29, -(10 ** 29), 10 ** 30 - 1, -(10 ** 30 - 1),
    "", " ", "\n", "0", "1", "00", "07", "-1", "+1", "1.0", "9999", "10000", "a", "A", "a1", "1a", "mow", "Mow",
    "abcdefgh", "abcdefghi", "a b", "a_b", "a-b", "~", "mow 3 40 5", "form", "a" * 1000,
]

INNER = [
    [], [0], [True], [None], ["mow"], [[]], [()], [{}], ["mow", 3, 40, 5], [("mow", 3, 40, 5)], [["mow", 3, 40, 5]],
    (), (0,), (True,), ("mow",), ([],), ({},), (("mow", 3, 40, 5),), ("mow", 3, 40), ("mow", 3, 40, 5),
    ("mow", 3, 40, 5, 5), ("mow", 3, 40, 5, 5, 5), (["mow"], 3, 40, 5), (0, 199), (5, 4),
    {}, {"mow": 1}, {0: 1}, {None: []}, {("mow",): {}}, {"rows": [("mow", 3, 40, 5)]},
    deep(0, 10), deep("mow", 10), [0] * 3000, (None,) * 3000,
]


def all_things():
    """All of them, new each time, so that no test sees what another one did to them."""
    return copy.deepcopy(PLAIN + INNER)


def refusal(case, error, call, *handed):
    """The error with which the call is refused, of just this class."""
    with case.assertRaises(error) as caught:
        call(*handed)
    case.assertIs(type(caught.exception), error)
    return caught.exception
