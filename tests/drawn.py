"""What the tests draw: sightings and lots, and the steps with which they are tried."""

from fractions import Fraction

from plain import belongs, fractions_to, is_met, pair, pieces_from, points_of, with_middles
from rimorders.lots import Lot

PARTS = fractions_to(60)
PLACES = with_middles(fractions_to(4))


def random_marks(source, many, most=40):
    return source.sample(range(most + 1), many)


def random_arc(source):
    low, high = sorted(source.sample(PARTS, 2))
    return pair(low), pair(high)


def random_sighting(source, most=40):
    word = source.choice(("turn", "on", "within", "next"))
    if word == "turn":
        return ("turn", *random_marks(source, 3, most))
    if word == "on":
        return ("on", *random_marks(source, 2, most))
    if word == "within":
        return ("within", *random_marks(source, 2, most), *random_arc(source))
    count = source.randrange(2, most + 2)
    return ("next", count, *random_marks(source, 2, count - 1))


def changes(sighting):
    """Where it may turn from right to wrong, worked out for each kind by itself."""
    word, *told = sighting
    if word == "turn":
        return points_of({abs(told[at] - told[at - 1]) for at in range(3)})
    if word == "on":
        return points_of([abs(told[0] - told[1])])
    if word == "within":
        way = told[1] - told[0]
        ends = {(Fraction(*end) + whole) / way for end in told[2:] for whole in range(-41, 42)}
        return sorted({end for end in ends if 0 < end < 1} | set(points_of([abs(way)])))
    return fractions_to(told[0] - 1)


def small_sighting(source):
    word = source.choice(("turn", "turn", "on", "within", "next"))
    if word == "within":
        low, high = source.choice((((0, 1), (1, 2)), ((1, 2), (1, 1)), ((0, 1), (1, 1))))
        return ("within", *source.sample(range(6), 2), low, high)
    if word == "next":
        count = source.randrange(2, 7)
        return ("next", count, *source.sample(range(count), 2))
    return (word, *source.sample(range(6), 3 if word == "turn" else 2))


def random_choice(source):
    """For each place whether it belongs; long stretches as well as single places."""
    change = source.choice((1, 2, 5))
    chosen, here = {}, source.random() < 0.5
    for where in PLACES:
        if source.randrange(change) == 0:
            here = not here if change > 1 else source.random() < 0.5
        chosen[where] = here
    return chosen


def lot_of_choice(chosen):
    return Lot(pieces_from(PLACES, lambda where: chosen[where]))


def small_lot(source):
    """A lot with ends that have small bottoms."""
    return lot_of_choice(random_choice(source))


def ends_of(lot):
    """The ends of its pieces."""
    return [Fraction(*end) for piece in lot.pieces for end in piece[:2]]


def steps_tried(lot, *others):
    """Of the lot each step of the other points, each end, and one step in each stretch between these."""
    points = sorted({Fraction(0), Fraction(1), *ends_of(lot), *[point for more in others for point in more]})
    return [pair(where) for where in with_middles(points) if belongs(lot.pieces, where)]


def told_by(source, step, draw):
    """A drawn sighting that is right for the step."""
    while True:
        sighting = draw(source)
        if is_met(sighting, step):
            return sighting
