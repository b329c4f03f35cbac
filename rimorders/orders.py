"""Orders: which rows of marks some step makes, and all orders of so many marks."""

from rimorders.checks import check_number, is_number
from rimorders.errors import InvalidOrder
from rimorders.limits import MOST_COUNTED, MOST_LISTED, MOST_MARK
from rimorders.lots import lot_where
from rimorders.ranks import mark_behind
from rimorders.sightings import whole_points
from rimorders.steps import mediant, order


def steps_of(row):
    """The lot of all steps that make this order."""
    _check_order(row)
    return _steps_that_meet(row)


def steps_of_some(row):
    """The lot of the steps for which just these marks are met so."""
    _check_row(row)
    return _steps_that_meet(row)


def how_many_orders(count):
    """How many orders of so many marks all steps make."""
    check_number(count, 1, MOST_COUNTED)
    if count == 1:
        return 1
    # By [8], each step with a bottom below the count makes one, and each stretch between two neighbours of these.
    return 2 * sum(_how_many_tops(count - 1)[1:])


def all_orders(count):
    """All orders of so many marks, by their steps ascending."""
    check_number(count, 1, MOST_LISTED)
    points = whole_points(list(range(1, count)))
    rows = []
    for low, high in zip(points, points[1:]):
        for step in (low, mediant(low, high)):
            row = order(step, count)
            # A single mark makes the same one on and on.
            if row not in rows:
                rows.append(row)
    return tuple(rows)


def broken_at(row):
    """The least mark behind which another one comes than [8] tells, None if there is none."""
    _check_order(row)
    for at, marks in enumerate(row):
        if len(marks) > 1:
            raise InvalidOrder(at)
    ring = [marks[0] for marks in row]
    many = len(ring)
    # Behind the last one the first one comes again.
    behind = {ring[at - 1]: ring[at] for at in range(many)}
    for mark in range(many):
        if behind[mark] != mark_behind(mark, many, behind[0], ring[-1]):
            return mark
    return None


def _check_row(row):
    """Raises InvalidOrder if it has not tuples of unlike ascending marks."""
    if not isinstance(row, tuple) or not row:
        raise InvalidOrder(None)
    met = []
    for at, marks in enumerate(row):
        if not _are_ascending_marks(marks) or any([mark in met for mark in marks]):
            raise InvalidOrder(at)
        met.extend(marks)


def _check_order(row):
    """Raises InvalidOrder also if the marks are not the first ones, beginning with 0."""
    _check_row(row)
    marks = [mark for place in row for mark in place]
    if max(marks) >= len(marks) or marks[0] != 0:
        raise InvalidOrder(None)


def _are_ascending_marks(given):
    if not isinstance(given, tuple) or not given:
        return False
    if not all([is_number(mark, 0, MOST_MARK) for mark in given]):
        return False
    return all([given[at - 1] < given[at] for at in range(1, len(given))])


def _steps_that_meet(row):
    marks = [mark for place in row for mark in place]
    # Only where a difference of two marks makes whole turns, the one passes the other.
    ways = sorted({abs(mark - other) for mark in marks for other in marks if mark != other})
    return lot_where(whole_points(ways), lambda step: _is_met(row, step))


def _is_met(row, step):
    top, bottom = step
    start = row[0][0]
    ahead = -1
    for marks in row:
        ways = [top * (mark - start) % bottom for mark in marks]
        if ways[0] <= ahead or any([way != ways[0] for way in ways]):
            return False
        ahead = ways[0]
    return True


def _how_many_tops(most):
    """For each bottom up to the most one, how many fractions from 0 on, below 1, have it."""
    many = list(range(most + 1))
    for prime in range(2, most + 1):
        if many[prime] == prime:
            for bottom in range(prime, most + 1, prime):
                many[bottom] -= many[bottom] // prime
    return many
