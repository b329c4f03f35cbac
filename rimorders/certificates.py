"""Certificates: claims for the checker, each with a paper that shows it."""

from rimorders.checks import check_number
from rimorders.limits import MOST_COUNT
from rimorders.lots import simplest
from rimorders.ranks import last_mark, next_mark
from rimorders.sightings import lot_of_all
from rimorders.steps import between
from rimorders.telling import judge, shown


def certify_fit(sightings):
    """Whether some step makes all of them right."""
    lot = lot_of_all(sightings)
    if lot.pieces:
        return ("fits", sightings), simplest(lot)
    return ("none", sightings), ()


def certify_judged(sightings, sighting):
    """Whether a sighting is sure or open if the others are right, None if it is never right."""
    lot = lot_of_all(sightings)
    told = judge(lot, sighting)
    if told == "never":
        return None
    return (told, sightings, sighting), () if told == "sure" else shown(lot, sighting)


def certify_parting(one, other, count):
    """Whether two steps make unlike orders of the first marks."""
    met = between(one, other)
    check_number(count, 1, MOST_COUNT)
    if one == other or count == 1:
        return ("alike", one, other, count), ()
    if met[1] < count:
        return ("parts", one, other, count), met
    return ("alike", one, other, count), _neighbours(one, count)


def _neighbours(step, count):
    """The nearest fractions on both sides of the step that have bottoms below the count."""
    top, bottom = step
    # The marks beside 0 have nearly made whole turns, or a little more than these.
    ahead, behind = next_mark(step, count, 0), last_mark(step, count, 0)
    return (top * ahead // bottom, ahead), (-(-top * behind // bottom), behind)
