"""What the tests work out by themselves, slowly and straight from the definitions."""

from fractions import Fraction
from functools import lru_cache
from math import gcd


def steps_to(most):
    """All steps with bottoms up to the most one."""
    return [(top, bottom) for bottom in range(1, most + 1) for top in range(bottom) if gcd(top, bottom) == 1]


def pair(number):
    return number.numerator, number.denominator


def place_of(step, mark):
    turned = mark * Fraction(*step)
    return turned - turned.__floor__()


@lru_cache(maxsize=100000)
def order_of(step, count):
    """The order by [7]: the marks sorted by their places, those at one place together."""
    places = sorted((place_of(step, mark), mark) for mark in range(count))
    row = []
    for at, (where, mark) in enumerate(places):
        if at and places[at - 1][0] == where:
            row[-1].append(mark)
        else:
            row.append([mark])
    return tuple(tuple(marks) for marks in row)


def searched_between(one, other):
    """The first fraction that lies between, by bottoms and then by tops."""
    low, high = sorted((Fraction(*one), Fraction(*other)))
    bottom = 1
    while True:
        for top in range(bottom):
            if low <= Fraction(top, bottom) <= high:
                return top, bottom
        bottom += 1


def searched_parting(one, other):
    count = 1
    while order_of(one, count) == order_of(other, count):
        count += 1
    return count


def neighbours(top, bottom):
    """The two fractions with lesser bottoms whose tops and bottoms add up to these, for 0 < top < bottom."""
    low_bottom = pow(top, -1, bottom)
    low_top = (top * low_bottom - 1) // bottom
    return (low_top, low_bottom), (top - low_top, bottom - low_bottom)


def moved(one, other, times):
    """A fraction from the one towards the other, so much nearer to it as it is taken more times."""
    return one[0] + times * other[0], one[1] + times * other[1]


def arc(low, high):
    """Whether a place lies from low on, below high."""
    return lambda where: Fraction(*low) <= where < Fraction(*high)


def fractions_to(most):
    """All fractions from 0 to 1 with bottoms up to the most one, ascending."""
    return points_of(range(1, most + 1))


def points_of(bottoms):
    """All fractions from 0 to 1 with one of these bottoms, in lowest terms or not, ascending."""
    return sorted({Fraction(top, bottom) for bottom in bottoms for top in range(bottom + 1)} | {Fraction(0), Fraction(1)})


def with_middles(points):
    """These places from 0 on, below 1, and one more between each two neighbours."""
    found = []
    for low, high in zip(points, points[1:]):
        found += [low, (low + high) / 2]
    return found


def belongs(pieces, where):
    """Whether a place belongs to one of these pieces, by [9]."""
    for low, high, first, last in pieces:
        low, high = Fraction(*low), Fraction(*high)
        if low < where < high or where == low and first or where == high and last:
            return True
    return False


def are_pieces(given):
    """Whether it is a tuple of pieces by [9]."""
    if type(given) is not tuple:
        return False
    for at, piece in enumerate(given):
        if type(piece) is not tuple or len(piece) != 4:
            return False
        for end in piece[:2]:
            if type(end) is not tuple or len(end) != 2 or {type(part) for part in end} != {int}:
                return False
            if end[1] < 1 or gcd(*end) != 1:
                return False
        if {type(truth) for truth in piece[2:]} != {bool}:
            return False
        low, high = Fraction(*piece[0]), Fraction(*piece[1])
        if low < 0 or high > 1 or low > high or high == 1 and piece[3]:
            return False
        if low == high and not (piece[2] and piece[3]):
            return False
        if at:
            ahead = Fraction(*given[at - 1][1])
            if ahead > low or ahead == low and (given[at - 1][3] or piece[2]):
                return False
    return True


def pieces_from(places, asked):
    """The pieces of what is asked, by asking places and those between them: points and middles in turn."""
    pieces = []
    begin = None
    for at, where in enumerate(places + [Fraction(1)]):
        fits = at < len(places) and asked(where)
        if fits and begin is None:
            begin = at
        if not fits and begin is not None:
            # Middles stand at odd indexes: they are within a stretch, whose ends are the points beside them.
            first, last = begin % 2 == 0, at % 2 == 1
            low, end = begin if first else begin - 1, at - 1 if last else at
            high = Fraction(1) if end == len(places) else places[end]
            pieces.append((pair(places[low]), pair(high), first, last))
            begin = None
    return tuple(pieces)


def round_from(step, start, marks):
    """These marks as they are met going round from the place of a mark on, those that stand there too last."""
    begin = place_of(step, start)

    def when(mark):
        where = place_of(step, mark)
        return where <= begin, where

    return sorted(marks, key=when)


def is_met(sighting, step):
    """Whether a sighting is right, by [10]."""
    word, *told = sighting
    if word == "turn":
        start, one, other = told
        return len({place_of(step, mark) for mark in told}) == 3 and round_from(step, start, [one, other]) == [one, other]
    if word == "on":
        return place_of(step, told[0]) == place_of(step, told[1])
    if word == "within":
        one, other, low, high = told
        way = place_of(step, other) - place_of(step, one)
        if way < 0:
            way += 1
        return Fraction(*low) < way < Fraction(*high)
    count, one, other = told
    row = order_of(step, count)
    at = [one in marks for marks in row].index(True)
    return len(row) > 1 and row[(at + 1) % len(row)] == (other,)


def order_of_some(step, start, marks):
    """These marks as they are met going round from the place of one of them on, those at one place together."""
    row = []
    there = [mark for mark in marks if place_of(step, mark) == place_of(step, start)]
    row.append(tuple(sorted(there)))
    for mark in round_from(step, start, sorted(set(marks) - set(there))):
        if place_of(step, mark) == place_of(step, row[-1][0]):
            row[-1] = row[-1] + (mark,)
        else:
            row.append((mark,))
    return tuple(row)
