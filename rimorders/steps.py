"""Places and orders of marks for a known step, and where two steps part."""

from math import gcd

from rimorders.checks import check_number, check_step, is_less
from rimorders.limits import MOST_COUNT

# An order is listed mark by mark, so it is asked for few marks only.
_MOST_ORDERED = 60


def place(step, mark):
    """The place of a mark: how far round the rim it stands, a fraction."""
    check_step(step)
    check_number(mark, 0, MOST_COUNT)
    top, bottom = step
    return lowest(top * mark % bottom, bottom)


def order(step, count):
    """The order of the first marks: tuples of marks, each of them at one place."""
    check_step(step)
    check_number(count, 1, _MOST_ORDERED)
    top, bottom = step
    standing = {}
    for mark in range(count):
        # All places have the bottom of the step, so that their tops tell them apart.
        standing.setdefault(top * mark % bottom, []).append(mark)
    return tuple([tuple(standing[at]) for at in sorted(standing)])


def mirrored(step):
    """The step that makes the same order run the other way round."""
    check_step(step)
    top, bottom = step
    # 1 is no step; its marks stand where those of 0 stand.
    if top == 0:
        return step
    return bottom - top, bottom


def parting(one, other):
    """The least number of marks for which the two steps make unlike orders."""
    check_step(one)
    check_step(other)
    if one == other:
        return None
    # By [8], a fraction between them makes a difference once its bottom is below the number.
    return _simplest_between(one, other)[1] + 1


def between(one, other):
    """The fraction with the least bottom from the one to the other."""
    check_step(one)
    check_step(other)
    return _simplest_between(one, other)


def lowest(top, bottom):
    """The fraction in lowest terms."""
    shared = gcd(top, bottom)
    return top // shared, bottom // shared


def mediant(low, high):
    """A fraction that lies strictly between two unlike ones."""
    return lowest(low[0] + high[0], low[1] + high[1])


def simplest_in(low, high, first, last):
    """The fraction with the least bottom from low to high; first and last tell which of these belong."""
    wholes = []
    top = _least_whole(low, first)
    # While no integer lies in the stretch, all of it has the same whole part;
    # less this part and turned over, its simplest fraction remains the simplest one.
    while not _is_within(top, high, last):
        whole = low[0] // low[1]
        wholes.append(whole)
        low, high = _turned(high, whole), _turned(low, whole)
        first, last = last, first
        top = _least_whole(low, first)
    # It is the least integer of this stretch, as the tops grow with it.
    bottom = 1
    for whole in reversed(wholes):
        top, bottom = whole * top + bottom, top
    return top, bottom


def _simplest_between(one, other):
    if is_less(other, one):
        return simplest_in(other, one, True, True)
    return simplest_in(one, other, True, True)


def _least_whole(low, first):
    """The least integer that is greater than low, or equal to it if it belongs."""
    top, bottom = low
    if first:
        return -(-top // bottom)
    return top // bottom + 1


def _is_within(whole, high, last):
    top, bottom = high
    return whole * bottom < top or last and whole * bottom == top


def _turned(fraction, whole):
    """Less the whole part and turned over; a bottom of 0 then stands for what is endless."""
    top, bottom = fraction
    return bottom, top - whole * bottom
