"""What whoever sees each n-th mark alone will see, and lots the other way round."""

from rimorders.checks import check_number
from rimorders.lots import Lot, both, check_lot, either, has
from rimorders.steps import lowest

_MOST_NUMBER = 40
_ZERO = ((0, 1), (0, 1), True, True)
_ALL_OTHERS = ((0, 1), (1, 1), False, False)


def thinned(lot, number):
    """The lot of all places of the mark with this number, for the steps of the lot."""
    check_lot(lot)
    check_number(number, 1, _MOST_NUMBER)
    seen = Lot(())
    for turn in range(number):
        seen = either(seen, _grown(lot, number, turn))
    return seen


def thinned_from(lot, number):
    """The lot of all steps for which the place of the mark with this number is in the lot."""
    check_lot(lot)
    check_number(number, 1, _MOST_NUMBER)
    # Pieces of neighbouring turns may touch, those of every other turn do not.
    return either(_shrunk(lot, number, 0), _shrunk(lot, number, 1))


def mirror(lot):
    """The lot of the steps that make the orders of its steps run the other way round."""
    check_lot(lot)
    # 0 stays where it is, all others change sides.
    pieces = []
    for low, high, first, last in reversed(both(lot, Lot((_ALL_OTHERS,))).pieces):
        pieces.append((_turned_round(high), _turned_round(low), last, first))
    turned = Lot(tuple(pieces))
    if has(lot, (0, 1)):
        return either(turned, Lot((_ZERO,)))
    return turned


def _grown(lot, number, turn):
    """The places of the mark for those steps of the lot for which it has made so many whole turns."""
    pieces = []
    within = lowest(turn, number), lowest(turn + 1, number), True, False
    for low, high, first, last in both(lot, Lot((within,))).pieces:
        pieces.append((_grown_end(low, number, turn), _grown_end(high, number, turn), first, last))
    return Lot(tuple(pieces))


def _grown_end(end, number, turn):
    top, bottom = end
    return lowest(top * number - turn * bottom, bottom)


def _shrunk(lot, number, least):
    """The steps for which the mark stands in the lot, each other number of whole turns from the least one on."""
    pieces = []
    for turn in range(least, number, 2):
        for low, high, first, last in lot.pieces:
            pieces.append((_shrunk_end(low, number, turn), _shrunk_end(high, number, turn), first, last))
    return Lot(tuple(pieces))


def _shrunk_end(end, number, turn):
    top, bottom = end
    return lowest(top + turn * bottom, number * bottom)


def _turned_round(end):
    top, bottom = end
    return bottom - top, bottom
