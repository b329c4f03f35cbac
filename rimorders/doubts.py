"""What some sightings tell if a few of them may be wrong."""

from rimorders.checks import check_number
from rimorders.errors import NoStep
from rimorders.lots import both, either, inside, whole_lot
from rimorders.sightings import check_sightings, lot_of

_MOST_DOUBTED = 8


def lot_with(sightings, most):
    """The lot of the steps for which at most so many of the sightings are not right."""
    _check_doubted(sightings, most)
    return _lots_by_wrong(sightings)[min(most, len(sightings))]


def fewest_wrong(sightings):
    """The least number of them that are not right, of all steps."""
    check_sightings(sightings, _MOST_DOUBTED)
    return [len(lot.pieces) > 0 for lot in _lots_by_wrong(sightings)].index(True)


def surely_wrong(sightings, most):
    """The indexes of those that are right for no step for which at most so many are not."""
    lot = _lot_with_steps(sightings, most)
    return tuple([at for at, sighting in enumerate(sightings) if not both(lot, lot_of(sighting)).pieces])


def surely_right(sightings, most):
    """The indexes of those that are right for each step for which at most so many are not."""
    lot = _lot_with_steps(sightings, most)
    return tuple([at for at, sighting in enumerate(sightings) if inside(lot, lot_of(sighting))])


def _check_doubted(sightings, most):
    check_sightings(sightings, _MOST_DOUBTED)
    check_number(most, 0, _MOST_DOUBTED)


def _lot_with_steps(sightings, most):
    lot = lot_with(sightings, most)
    if not lot.pieces:
        raise NoStep()
    return lot


def _lots_by_wrong(sightings):
    """For each number up to that of the sightings the lot of the steps for which at most so many are not right."""
    lots = [whole_lot()]
    for sighting in sightings:
        fitting = lot_of(sighting)
        # At most so many are wrong if the last one is right or one less of those ahead of it is wrong.
        grown = [both(lots[0], fitting)]
        for fewer, many in zip(lots, lots[1:]):
            grown.append(either(both(many, fitting), fewer))
        lots = [*grown, whole_lot()]
    return lots
