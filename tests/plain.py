"""What the tests work out by themselves, slowly and straight from the definitions."""

from fractions import Fraction
from math import gcd


def steps_to(most):
    """All steps with bottoms up to the most one."""
    return [(top, bottom) for bottom in range(1, most + 1) for top in range(bottom) if gcd(top, bottom) == 1]


def pair(number):
    return number.numerator, number.denominator


def place_of(step, mark):
    turned = mark * Fraction(*step)
    return turned - turned.__floor__()


def order_of(step, count):
    """The order by [7]: the marks sorted by their places, those at one place together."""
    places = sorted((place_of(step, mark), mark) for mark in range(count))
    row = []
    for at, (where, mark) in enumerate(places):
        if at and places[at - 1][0] == where:
            row[-1].append(mark)
        else:
            row.append([mark])
    return tuple(tuple(marks) for marks in row)


def searched_between(one, other):
    """The first fraction that lies between, by bottoms and then by tops."""
    low, high = sorted((Fraction(*one), Fraction(*other)))
    bottom = 1
    while True:
        for top in range(bottom):
            if low <= Fraction(top, bottom) <= high:
                return top, bottom
        bottom += 1


def searched_parting(one, other):
    count = 1
    while order_of(one, count) == order_of(other, count):
        count += 1
    return count


def neighbours(top, bottom):
    """The two fractions with lesser bottoms whose tops and bottoms add up to these, for 0 < top < bottom."""
    low_bottom = pow(top, -1, bottom)
    low_top = (top * low_bottom - 1) // bottom
    return (low_top, low_bottom), (top - low_top, bottom - low_bottom)


def moved(one, other, times):
    """A fraction from the one towards the other, so much nearer to it as it is taken more times."""
    return one[0] + times * other[0], one[1] + times * other[1]
