"""What a lot tells: what is sure, what can be, and which sighting is best looked at next."""

from rimorders.checks import check_number, is_less
from rimorders.errors import InvalidSightings, NoStep
from rimorders.limits import MOST_MARK, MOST_SIGHTINGS
from rimorders.lots import both, check_lot, simplest, without
from rimorders.ranks import next_mark
from rimorders.sightings import check_sighting, check_sightings, lot_of, whole_points
from rimorders.steps import simplest_in


def judge(lot, sighting):
    """Whether a sighting is right for all steps of the lot, for none, or for some only."""
    check_lot(lot)
    check_sighting(sighting)
    if not lot.pieces:
        raise NoStep()
    right, wrong = _parted(lot, sighting)
    if not wrong.pieces:
        return "sure"
    return "open" if right.pieces else "never"


def shown(lot, sighting):
    """A step of the lot for which it is right and one for which it is not, None where there is none."""
    check_lot(lot)
    check_sighting(sighting)
    right, wrong = _parted(lot, sighting)
    return _step_of(right), _step_of(wrong)


def orders_in(lot, count):
    """How many orders of the first marks the steps of the lot make."""
    check_lot(lot)
    check_number(count, 1, MOST_MARK + 1)
    return _how_many_met(lot, _points_below(count))


def sure_next(lot, count, mark):
    """The mark that comes alone next behind this one for all steps of the lot, None if there is none."""
    check_lot(lot)
    check_number(count, 2, MOST_MARK + 1)
    check_number(mark, 0, count - 1)
    # What comes next for all steps comes next for any one of them.
    told = next_mark(simplest(lot), count, mark)
    if told is None or judge(lot, ("next", count, mark, told)) != "sure":
        return None
    return told


def parting_in(lot):
    """The least number of marks for which some two steps of the lot make unlike orders."""
    check_lot(lot)
    if not lot.pieces:
        return None
    low, _, first, _ = lot.pieces[0]
    _, high, _, last = lot.pieces[-1]
    if low == high:
        return None
    # Each fraction from its first step to its last one lies between two steps of it; see [8].
    return simplest_in(low, high, first, last)[1] + 1


def best_offer(lot, offers, count):
    """The index of the sighting that leaves the fewest orders, whether it turns out right or not."""
    check_lot(lot)
    check_sightings(offers, MOST_SIGHTINGS)
    if not offers:
        raise InvalidSightings(None)
    check_number(count, 1, MOST_MARK + 1)
    points = _points_below(count)
    left = []
    for offer in offers:
        right, wrong = _parted(lot, offer)
        left.append(max(_how_many_met(right, points), _how_many_met(wrong, points)))
    return left.index(min(left))


def _parted(lot, sighting):
    """The lots of the steps of this one for which the sighting is right, and for which it is not."""
    fitting = lot_of(sighting)
    return both(lot, fitting), without(lot, fitting)


def _step_of(lot):
    return simplest(lot) if lot.pieces else None


def _points_below(count):
    """The fractions with bottoms below the count, ascending: by [8] they part the orders of so many marks."""
    if count == 1:
        return []
    return whole_points(list(range(1, count)))


def _how_many_met(lot, points):
    """How many of these points, and of the stretches between them, have steps of the lot."""
    many, ahead = 0, None
    for low, high, first, last in lot.pieces:
        # The points have odd numbers and the stretches even ones: each counts the points ahead of it twice.
        begin = _how_many_ahead(points, low, True) + _how_many_ahead(points, low, not first)
        end = _how_many_ahead(points, high, False) + _how_many_ahead(points, high, last)
        # Several pieces may have steps in one stretch.
        many += end - begin + (0 if begin == ahead else 1)
        ahead = end
    return many


def _how_many_ahead(points, fraction, itself):
    """How many of the ascending points are less than the fraction, or are the fraction itself if this counts."""
    least, most = 0, len(points)
    while least < most:
        middle = (least + most) // 2
        if is_less(points[middle], fraction) or itself and points[middle] == fraction:
            least = middle + 1
        else:
            most = middle
    return least
