"""A checker of claims, which believes nothing but papers."""

from rimorders.checks import is_fraction, is_integer, is_less, is_step
from rimorders.limits import MOST_SIGHTINGS
from rimorders.lots import inside
from rimorders.sightings import is_right, is_sighting, lot_of, lot_of_all


def accepts(claim, paper):
    """Whether it is a claim for the checker and the paper is one for it."""
    if not isinstance(claim, tuple) or not claim or not isinstance(claim[0], str):
        return False
    word, told = claim[0], claim[1:]
    if word not in _FORMS:
        return False
    has_form = _FORMS[word]
    is_proved = _PROOFS[word]
    return has_form(told) and is_proved(told, paper)


def _has_sightings(told):
    return len(told) == 1 and _are_sightings(told[0])


def _has_judged(told):
    return len(told) == 2 and _are_sightings(told[0]) and is_sighting(told[1])


def _has_steps(told):
    if len(told) != 3 or not is_step(told[0]) or not is_step(told[1]):
        return False
    return is_integer(told[2]) and told[2] >= 1


def _are_sightings(given):
    if not isinstance(given, tuple) or len(given) > MOST_SIGHTINGS:
        return False
    return all([is_sighting(sighting) for sighting in given])


def _is_empty(paper):
    return isinstance(paper, tuple) and len(paper) == 0


def _is_pair(paper):
    return isinstance(paper, tuple) and len(paper) == 2


def _makes_right(step, sightings):
    return all([is_right(sighting, step) for sighting in sightings])


def _is_fit(told, paper):
    return is_step(paper) and _makes_right(paper, told[0])


def _is_none(told, paper):
    return _is_empty(paper) and not lot_of_all(told[0]).pieces


def _is_sure(told, paper):
    sightings, sighting = told
    if not _is_empty(paper):
        return False
    lot = lot_of_all(sightings)
    return len(lot.pieces) > 0 and inside(lot, lot_of(sighting))


def _is_open(told, paper):
    sightings, sighting = told
    if not _is_pair(paper) or not is_step(paper[0]) or not is_step(paper[1]):
        return False
    right, wrong = paper
    if not _makes_right(right, sightings) or not _makes_right(wrong, sightings):
        return False
    return is_right(sighting, right) and not is_right(sighting, wrong)


def _are_parted(told, paper):
    one, other, count = told
    if not is_fraction(paper) or one == other:
        return False
    low, high = (other, one) if is_less(other, one) else (one, other)
    return paper[1] < count and not is_less(paper, low) and not is_less(high, paper)


def _are_alike(told, paper):
    one, other, count = told
    if one == other or count == 1:
        return _is_empty(paper)
    if not _is_pair(paper) or not is_fraction(paper[0]) or not is_fraction(paper[1]):
        return False
    low, high = paper
    if low[0] < 0 or high[0] * low[1] - low[0] * high[1] != 1 or low[1] + high[1] < count:
        return False
    # All fractions between such neighbours have bottoms as great as both of theirs together.
    return all([is_less(low, step) and is_less(step, high) for step in (one, other)])


_FORMS = {
    "fits": _has_sightings,
    "none": _has_sightings,
    "sure": _has_judged,
    "open": _has_judged,
    "parts": _has_steps,
    "alike": _has_steps,
}
_PROOFS = {
    "fits": _is_fit,
    "none": _is_none,
    "sure": _is_sure,
    "open": _is_open,
    "parts": _are_parted,
    "alike": _are_alike,
}
