"""Neighbours, ranks and arcs of any number of marks, for a known step."""

from rimorders.checks import check_number, check_step, is_less, is_part
from rimorders.errors import InvalidArc
from rimorders.limits import MOST_COUNT


def next_mark(step, count, mark):
    """The least mark at the place that is met first behind that of the mark."""
    _check_mark(step, count, mark)
    many = _how_many_places(step, count)
    if many == 1:
        return None
    first, last = _beside_zero(step, many)
    return mark_behind(mark % step[1], many, first, last)


def last_mark(step, count, mark):
    """The least mark at the place that is met last behind that of the mark."""
    _check_mark(step, count, mark)
    many = _how_many_places(step, count)
    if many == 1:
        return None
    # The other way round, the marks met first and last change their parts.
    first, last = _beside_zero(step, many)
    return mark_behind(mark % step[1], many, last, first)


def rank(step, count, mark):
    """How many unlike places of the first marks are less than that of the mark."""
    _check_mark(step, count, mark)
    return _how_many_below(step, _how_many_places(step, count), step[0] * mark % step[1])


def mark_of(step, count, rank):
    """The least mark with this rank, among the first ones."""
    _check_count(step, count)
    many = _how_many_places(step, count)
    check_number(rank, 0, many - 1)
    # The greatest top with no more places below it than the rank is that of the mark's own place.
    least, most = 0, step[1] - 1
    while least < most:
        middle = (least + most + 1) // 2
        if _how_many_below(step, many, middle) <= rank:
            least = middle
        else:
            most = middle - 1
    return _first_from_to(step, least, least)


def how_many(step, count, low, high):
    """How many of the first marks have a place from low on, below high."""
    _check_count(step, count)
    _check_arc(low, high)
    below_high = _how_many_below(step, count, _least_top(high, step[1]))
    return below_high - _how_many_below(step, count, _least_top(low, step[1]))


def first_within(step, low, high):
    """The least mark of all that has a place from low on, below high."""
    check_step(step)
    _check_arc(low, high)
    least, most = _least_top(low, step[1]), _least_top(high, step[1]) - 1
    if least > most:
        return None
    return _first_from_to(step, least, most)


def mark_behind(mark, many, first, last):
    """What comes behind a mark by [8], of so many, with the ones met first and last behind the mark 0."""
    if mark < many - first:
        return mark + first
    if mark >= last:
        return mark - last
    return mark + first - last


def _check_count(step, count):
    check_step(step)
    check_number(count, 1, MOST_COUNT)


def _check_mark(step, count, mark):
    _check_count(step, count)
    check_number(mark, 0, count - 1)


def _check_arc(low, high):
    if not is_part(low):
        raise InvalidArc(low)
    if not is_part(high) or not is_less(low, high):
        raise InvalidArc(high)


def _how_many_places(step, count):
    # From the mark with the number of the bottom on, all stand where others stand already.
    return min(count, step[1])


def _beside_zero(step, many):
    """Which marks are met first and last behind the mark 0, of so many at unlike places."""
    top, bottom = step
    # They are the bottoms of the nearest fractions on both sides of the step, with bottoms below
    # the number of marks. These are reached from 0 and 1; far_low and far_high tell how far
    # the step is from them.
    low, far_low, high, far_high = 1, top, 1, bottom - top
    while low + high < many:
        times = min(far_low // far_high, (many - 1 - low) // high)
        low, far_low = low + times * high, far_low - times * far_high
        times = min(far_high // far_low, (many - 1 - high) // low)
        high, far_high = high + times * low, far_high - times * far_low
    return low, high


def _how_many_below(step, count, most):
    """How many of the first marks have a place with a top below the most one, over the bottom of the step."""
    top, bottom = step
    # Set back by the most one, just these marks fall back into the turn before.
    return count + _sum_of_wholes(count, bottom, top, 0) - _sum_of_wholes(count, bottom, top, bottom - most)


def _sum_of_wholes(count, bottom, slope, shift):
    """The sum of (slope * k + shift) // bottom for all k from 0 on, below the count."""
    total = 0
    while count:
        total += count * (count - 1) // 2 * (slope // bottom) + count * (shift // bottom)
        slope, shift = slope % bottom, shift % bottom
        # What is left are the points below a line, to be counted by rows in the place of columns.
        count, shift = divmod(slope * count + shift, bottom)
        slope, bottom = bottom, slope
    return total


def _least_top(fraction, bottom):
    """The least top over this bottom from the fraction on."""
    return -(-fraction[0] * bottom // fraction[1])


def _first_from_to(step, least, most):
    """The least mark at a place with a top from the least to the most one, over the bottom of the step."""
    slope, whole = step
    turns = []
    # While no mark of the first turn falls in: the first turn with one is looked for as a mark is.
    while least > 0 and _first_from(slope, least) * slope > most:
        turns.append((slope, whole, least))
        slope, whole, least, most = whole % slope, slope, -most % slope, -least % slope
    mark = _first_from(slope, least) if least > 0 else 0
    for slope, whole, least in reversed(turns):
        mark = _first_from(slope, least + whole * mark)
    return mark


def _first_from(slope, least):
    """How many slopes together come so far at least."""
    return -(-least // slope)
