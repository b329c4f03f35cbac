"""Papers for the checker, asked straight from the document: by steps tried one by one, and by fractions."""

from fractions import Fraction
from math import gcd

from drawn import changes
from plain import is_met, pair, with_middles


def is_fraction_value(given):
    if type(given) is not tuple or len(given) != 2 or {type(part) for part in given} != {int}:
        return False
    return given[1] >= 1 and gcd(*given) == 1


def is_step_value(given):
    return is_fraction_value(given) and 0 <= given[0] < given[1]


def all_steps(*sightings):
    """Each step at which one of these may change, and one between each two of them."""
    points = {Fraction(0), Fraction(1)} | {point for sighting in sightings for point in changes(sighting)}
    return [pair(where) for where in with_middles(sorted(points))]


def fit(sightings, step):
    return all(is_met(sighting, step) for sighting in sightings)


def verdict(sightings, sighting):
    """None if no step makes them right; otherwise what the sighting is for those that do."""
    right = {is_met(sighting, step) for step in all_steps(*sightings, sighting) if fit(sightings, step)}
    return {(): None, (True,): "sure", (False,): "never", (False, True): "open"}[tuple(sorted(right))]


def is_paper(claim, paper):
    """Whether it is a paper for a claim of the right form."""
    word, *told = claim
    return {"fits": is_fit, "none": is_none, "sure": is_sure, "open": is_open, "parts": is_parting,
            "alike": is_alike}[word](paper, *told)


def is_fit(paper, sightings):
    return is_step_value(paper) and fit(sightings, paper)


def is_none(paper, sightings):
    return paper == () and not any(fit(sightings, step) for step in all_steps(*sightings))


def is_sure(paper, sightings, sighting):
    return paper == () and verdict(sightings, sighting) == "sure"


def is_open(paper, sightings, sighting):
    if type(paper) is not tuple or len(paper) != 2 or not all(is_step_value(step) and fit(sightings, step) for step in paper):
        return False
    return [is_met(sighting, step) for step in paper] == [True, False]


def is_parting(paper, one, other, count):
    if one == other or not is_fraction_value(paper) or paper[1] >= count:
        return False
    low, high = sorted([Fraction(*one), Fraction(*other)])
    return low <= Fraction(*paper) <= high


def is_alike(paper, one, other, count):
    if one == other or count == 1:
        return paper == ()
    if type(paper) is not tuple or len(paper) != 2 or not all(is_fraction_value(end) and end[0] >= 0 for end in paper):
        return False
    (low_top, low_bottom), (high_top, high_bottom) = paper
    if high_top * low_bottom - low_top * high_bottom != 1 or low_bottom + high_bottom < count:
        return False
    return all(Fraction(low_top, low_bottom) < Fraction(*step) < Fraction(high_top, high_bottom) for step in (one, other))


def changed(paper):
    """Papers that differ from this one in one part."""
    if paper == ():
        return [None, [], "", 0, False, ((),), (0, 1), ((0, 1),), ((0, 1), (1, 1)), (None,), {}]
    if type(paper) is int:
        return [paper + 1, paper - 1, -paper, 0, 2 * paper, str(paper), None, True, (paper,)]
    made = [list(paper), paper[::-1], paper[:1], paper + paper[:1], (paper,), (), None, paper[0]]
    for at, part in enumerate(paper):
        made += [paper[:at] + (other,) + paper[at + 1:] for other in changed(part)]
    return made
