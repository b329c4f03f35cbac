"""Places and orders of marks for a known step, and where two steps part."""

from math import gcd

from rimorders.checks import check_number, check_step
from rimorders.limits import MOST_COUNT

# An order is listed mark by mark, so it is asked for few marks only.
_MOST_ORDERED = 60


def place(step, mark):
    """The place of a mark: how far round the rim it stands, a fraction."""
    check_step(step)
    check_number(mark, 0, MOST_COUNT)
    top, bottom = step
    return _lowest(top * mark % bottom, bottom)


def order(step, count):
    """The order of the first marks: tuples of marks, each of them at one place."""
    check_step(step)
    check_number(count, 1, _MOST_ORDERED)
    top, bottom = step
    standing = {}
    for mark in range(count):
        # All places have the bottom of the step, so that their tops tell them apart.
        standing.setdefault(top * mark % bottom, []).append(mark)
    return tuple([tuple(standing[at]) for at in sorted(standing)])


def mirrored(step):
    """The step that makes the same order run the other way round."""
    check_step(step)
    top, bottom = step
    # 1 is no step; its marks stand where those of 0 stand.
    if top == 0:
        return step
    return bottom - top, bottom


def parting(one, other):
    """The least number of marks for which the two steps make unlike orders."""
    check_step(one)
    check_step(other)
    if one == other:
        return None
    # By [8], a fraction between them makes a difference once its bottom is below the number.
    return _simplest_between(one, other)[1] + 1


def between(one, other):
    """The fraction with the least bottom from the one to the other."""
    check_step(one)
    check_step(other)
    return _simplest_between(one, other)


def _lowest(top, bottom):
    shared = gcd(top, bottom)
    return top // shared, bottom // shared


def _simplest_between(one, other):
    if one[0] * other[1] <= other[0] * one[1]:
        return _simplest(one, other)
    return _simplest(other, one)


def _simplest(low, high):
    """The fraction with the least bottom from low to high, both included."""
    low_top, low_bottom = low
    high_top, high_bottom = high
    wholes = []
    # While no integer lies in the stretch, all of it has the same whole part;
    # less this part and turned over, its simplest fraction remains the simplest one.
    while low_top % low_bottom and low_top // low_bottom == high_top // high_bottom:
        whole = low_top // low_bottom
        wholes.append(whole)
        low_rest, high_rest = low_top - whole * low_bottom, high_top - whole * high_bottom
        low_top, low_bottom, high_top, high_bottom = high_bottom, high_rest, low_bottom, low_rest
    # The least integer from low on, as the tops grow with it.
    top, bottom = -(-low_top // low_bottom), 1
    for whole in reversed(wholes):
        top, bottom = whole * top + bottom, top
    return top, bottom
