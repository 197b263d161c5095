"""Pieces that are made of a number, and the greatest number for which they are kept."""

from failslack.papers import Crowd, Kept
from failslack.weighing import is_kept, too_short


def greatest_kept(made, failings, most):
    """The greatest number up to most for which they are kept, where this is so for 0, and for all below another one."""
    low = 0
    high = most
    while low < high:
        middle = (low + high + 1) // 2
        if is_kept(made(middle), failings):
            low = middle
        else:
            high = middle - 1
    return low


def crowd_of(pieces, failings):
    """The paper of a crowd that holds, of pieces that are not kept."""
    return Crowd(pieces, failings, too_short(pieces, failings))


def edge_papers(made, failings, most):
    """This number, a paper that they are kept for it, and one of a crowd for one more, None where it is most."""
    number = greatest_kept(made, failings, most)
    crowd = crowd_of(made(number + 1), failings) if number < most else None
    return (number, Kept(made(number), failings), crowd)
