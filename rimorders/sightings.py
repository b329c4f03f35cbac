"""Sightings: what was met going round, and the lots of the steps for which it is right."""

from itertools import combinations
from math import lcm

from rimorders.checks import check_step, is_less, is_number, is_part
from rimorders.errors import InvalidSighting, InvalidSightings
from rimorders.limits import MOST_MARK, MOST_PART, MOST_SIGHTINGS
from rimorders.lots import both, lot_where, whole_lot
from rimorders.steps import lowest

_MOST_STRIKING = 8


def lot_of(sighting):
    """The lot of all steps for which it is right."""
    check_sighting(sighting)
    points_of = _POINTS[sighting[0]]
    return lot_where(points_of(sighting), lambda step: _fits(sighting, step))


def lot_of_all(sightings):
    """The lot of all steps for which all of them are right."""
    check_sightings(sightings, MOST_SIGHTINGS)
    lot = whole_lot()
    for sighting in sightings:
        lot = both(lot, lot_of(sighting))
    return lot


def is_right(sighting, step):
    """Whether it is right for a step."""
    check_sighting(sighting)
    check_step(step)
    return _fits(sighting, step)


def striking(sightings):
    """All sets of these that cannot be lesser, without which some step makes all others right."""
    check_sightings(sightings, _MOST_STRIKING)
    many = len(sightings)
    lots = _lots_of_sets(sightings)
    struck = []
    for size in range(many + 1):
        for chosen in combinations(range(many), size):
            left = tuple([at for at in range(many) if at not in chosen])
            if lots[left].pieces and not any([_is_among(other, chosen) for other in struck]):
                struck.append(chosen)
    return tuple(struck)


def check_sighting(given):
    """Raises InvalidSighting if it is none."""
    if not is_sighting(given):
        raise InvalidSighting(given)


def check_sightings(given, most):
    """Raises InvalidSightings with the first one that is none, or is one too many."""
    if not isinstance(given, tuple):
        raise InvalidSightings(None)
    for at, sighting in enumerate(given):
        if at == most or not is_sighting(sighting):
            raise InvalidSightings(at)


def is_sighting(given):
    """Whether it is one of the tuples of [10]."""
    if not isinstance(given, tuple) or not given or not isinstance(given[0], str):
        return False
    if given[0] not in _FORMS:
        return False
    has_form = _FORMS[given[0]]
    return has_form(given)


def whole_points(numbers):
    """The fractions from 0 to 1 of which one of these multiples is an integer, ascending."""
    common = 1
    for number in numbers:
        common = lcm(common, number)
    return _points([common // number * top for number in numbers for top in range(number)], common)


def _points(tops, bottom):
    """The unlike fractions with these tops, and 0 and 1, ascending."""
    return [lowest(top, bottom) for top in sorted(set([0, bottom, *tops]))]


def _lots_of_sets(sightings):
    """For each ascending tuple of indexes of sightings the lot of the steps that make just these right."""
    lots = {(): whole_lot()}
    for at, sighting in enumerate(sightings):
        own = lot_of(sighting)
        for indexes in list(lots):
            lots[indexes + (at,)] = both(lots[indexes], own)
    return lots


def _is_among(indexes, others):
    return all([at in others for at in indexes])


def _are_marks(marks, most):
    """Whether all of these are unlike marks up to the most one."""
    return all([is_number(mark, 0, most) for mark in marks]) and len(set(marks)) == len(marks)


def _is_turn(given):
    return len(given) == 4 and _are_marks(given[1:], MOST_MARK)


def _is_on(given):
    return len(given) == 3 and _are_marks(given[1:], MOST_MARK)


def _is_within(given):
    if len(given) != 5 or not _are_marks(given[1:3], MOST_MARK):
        return False
    low, high = given[3:]
    if not is_part(low) or not is_part(high) or low[1] > MOST_PART or high[1] > MOST_PART:
        return False
    return is_less(low, high)


def _is_next(given):
    return len(given) == 4 and is_number(given[1], 2, MOST_MARK + 1) and _are_marks(given[2:], given[1] - 1)


def _fits(sighting, step):
    is_met = _RIGHT[sighting[0]]
    return is_met(sighting, step)


def _way(step, start, mark):
    """How far it is from one mark round to another one, over the bottom of the step."""
    return step[0] * (mark - start) % step[1]


def _turn_is_right(sighting, step):
    _, start, one, other = sighting
    return 0 < _way(step, start, one) < _way(step, start, other)


def _on_is_right(sighting, step):
    _, one, other = sighting
    return _way(step, one, other) == 0


def _within_is_right(sighting, step):
    _, one, other, low, high = sighting
    part = _way(step, one, other), step[1]
    return is_less(low, part) and is_less(part, high)


def _next_is_right(sighting, step):
    _, count, start, told = sighting
    way = _way(step, start, told)
    if way == 0:
        return False
    # All other marks stand where it began, or farther on.
    ways = [_way(step, start, mark) for mark in range(count) if mark != told]
    return all([other == 0 or other > way for other in ways])


def _turn_points(sighting):
    _, start, one, other = sighting
    return whole_points([abs(one - start), abs(other - start), abs(other - one)])


def _on_points(sighting):
    _, one, other = sighting
    return whole_points([abs(other - one)])


def _within_points(sighting):
    _, one, other, low, high = sighting
    number = abs(other - one)
    shared = lcm(low[1], high[1])
    ends = [low[0] * (shared // low[1]), high[0] * (shared // high[1])]
    if other < one:
        # The way runs back while the step grows.
        ends = [shared - end for end in ends]
    return _points([end + whole * shared for end in ends for whole in range(number)], number * shared)


def _next_points(sighting):
    _, count, start, told = sighting
    ways = [abs(mark - other) for mark in range(count) for other in (start, told) if mark != other]
    return whole_points(sorted(set(ways)))


_FORMS = {"turn": _is_turn, "on": _is_on, "within": _is_within, "next": _is_next}
_RIGHT = {"turn": _turn_is_right, "on": _on_is_right, "within": _within_is_right, "next": _next_is_right}
_POINTS = {"turn": _turn_points, "on": _on_points, "within": _within_points, "next": _next_points}
