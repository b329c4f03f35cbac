"""Lots: sets of steps, told by their pieces."""

from rimorders.checks import check_step, is_less, is_part
from rimorders.errors import InvalidPieces, InvalidText, NoStep, NotALot
from rimorders.steps import lowest, mediant, simplest_in

# Inside of this file a lot is also told by its cuts, ascending: it begins at the first one, ends at
# the second one, begins again at the third one. A cut is a pair of a fraction and 0 or 1: just ahead
# of the fraction, or just behind it. So open and closed ends need no cases of their own.
_FIRST_CUT = ((0, 1), 0)
_LAST_CUT = ((1, 1), 0)
_BEYOND = ((2, 1), 0)

# Python turns no more than some thousand digits at once into a number, or back.
_DIGITS = 600
_GROUP = (10 ** 30) ** 20


class Lot:
    """A set of steps."""

    def __init__(self, pieces):
        if not isinstance(pieces, tuple):
            raise InvalidPieces(None)
        wrong = _first_wrong(pieces)
        if wrong is not None:
            raise InvalidPieces(wrong)
        self._pieces = pieces

    @classmethod
    def read(cls, text):
        """The lot with this text."""
        if not isinstance(text, str):
            raise InvalidText(text)
        pieces = _read_pieces(text)
        # A lot has one text only, so that other brackets, needless zeros and the like need no cases of their own.
        if _first_wrong(pieces) is not None or _text_of(pieces) != text:
            raise InvalidText(text)
        return cls(pieces)

    @property
    def pieces(self):
        """Its stretches, ascending: low, high, and whether these belong to it."""
        return self._pieces

    @property
    def text(self):
        """A word for each piece."""
        return _text_of(self._pieces)

    @property
    def width(self):
        """How much of the rim it covers, a fraction."""
        top, bottom = 0, 1
        for piece in self._pieces:
            low, high = piece[:2]
            for end_top, end_bottom in (high, (-low[0], low[1])):
                top, bottom = lowest(top * end_bottom + end_top * bottom, bottom * end_bottom)
        return top, bottom

    def __eq__(self, other):
        return isinstance(other, Lot) and self._pieces == other._pieces

    def __str__(self):
        return str(_text_of(self._pieces))

    def __repr__(self):
        return f"Lot of {len(self._pieces)} pieces"


def has(lot, step):
    """Whether the step belongs to the lot."""
    check_lot(lot)
    check_step(step)
    ahead = step, 0
    for piece in lot.pieces:
        begin, end = _cuts_at(piece)
        if not _is_ahead(ahead, begin) and _is_ahead(ahead, end):
            return True
    return False


def inside(lot, mate):
    """Whether each step of the lot is one of the other one."""
    check_lot(lot)
    check_lot(mate)
    return both(lot, mate) == lot


def both(lot, mate):
    """The lot of the steps that belong to both."""
    check_lot(lot)
    check_lot(mate)
    return _covered(lot, mate, 2)


def either(lot, mate):
    """The lot of the steps that belong to at least one of the two."""
    check_lot(lot)
    check_lot(mate)
    return _covered(lot, mate, 1)


def others(lot):
    """The lot of the steps that do not belong to it."""
    check_lot(lot)
    cuts = _cuts_of(lot.pieces)
    # Where a lot begins the others end, and where it ends they begin.
    cuts = cuts[1:] if cuts[:1] == [_FIRST_CUT] else [_FIRST_CUT, *cuts]
    cuts = cuts[:-1] if cuts[-1:] == [_LAST_CUT] else [*cuts, _LAST_CUT]
    return _lot_with(cuts)


def simplest(lot):
    """The step with the least bottom, and of these with the least top."""
    check_lot(lot)
    if not lot.pieces:
        raise NoStep()
    steps = [simplest_in(low, high, first, last) for low, high, first, last in lot.pieces]
    bottom, top = min([(bottom, top) for top, bottom in steps])
    return top, bottom


def without(lot, mate):
    """The lot of the steps that belong to the first lot and not to the other one."""
    return both(lot, others(mate))


def check_lot(given):
    """Raises NotALot if it is no lot."""
    if not isinstance(given, Lot):
        raise NotALot(given)


def whole_lot():
    """The lot of all steps."""
    return _lot_with([_FIRST_CUT, _LAST_CUT])


def lot_where(points, fits):
    """The lot of the steps that fit, where this changes only at these fractions, ascending from 0 to 1."""
    cuts = []
    for low, high in zip(points, points[1:]):
        # Between two points all steps fit or none, so that one of them is asked for all.
        for cut, step in (((low, 0), low), ((low, 1), mediant(low, high))):
            if fits(step) != (len(cuts) % 2 == 1):
                cuts.append(cut)
    if len(cuts) % 2 == 1:
        cuts.append(_LAST_CUT)
    return _lot_with(cuts)


def fraction_text(fraction):
    """A fraction as it stands in the text of a lot."""
    top, bottom = fraction
    return f"{_digits_of(top)}/{_digits_of(bottom)}"


def _first_wrong(pieces):
    """The index of the first piece that cannot stand where it does, None if there is none."""
    for at, piece in enumerate(pieces):
        if not _is_piece(piece):
            return at
        if at > 0 and not _is_ahead(_cuts_at(pieces[at - 1])[1], _cuts_at(piece)[0]):
            return at
    return None


def _is_piece(given):
    if not isinstance(given, tuple) or len(given) != 4:
        return False
    low, high, first, last = given
    if not is_part(low) or not is_part(high) or not isinstance(first, bool) or not isinstance(last, bool):
        return False
    begin, end = _cuts_at(given)
    return _is_ahead(begin, end) and not _is_ahead(_LAST_CUT, end)


def _cuts_at(piece):
    """Where a piece begins, and where it ends."""
    low, high, first, last = piece
    return (low, 0 if first else 1), (high, 1 if last else 0)


def _is_ahead(cut, other):
    if cut[0] == other[0]:
        return cut[1] < other[1]
    return is_less(cut[0], other[0])


def _cuts_of(pieces):
    return [cut for piece in pieces for cut in _cuts_at(piece)]


def _lot_with(cuts):
    pieces = []
    for begin, end in zip(cuts[::2], cuts[1::2]):
        pieces.append((begin[0], end[0], begin[1] == 0, end[1] == 1))
    return Lot(tuple(pieces))


def _covered(lot, mate, least):
    """The lot of the steps that belong to so many of the two at least."""
    ones, mates = [*_cuts_of(lot.pieces), _BEYOND], [*_cuts_of(mate.pieces), _BEYOND]
    cuts = []
    at, beside = 0, 0
    while ones[at] != _BEYOND or mates[beside] != _BEYOND:
        cut = mates[beside] if _is_ahead(mates[beside], ones[at]) else ones[at]
        if ones[at] == cut:
            at += 1
        if mates[beside] == cut:
            beside += 1
        # Behind an odd number of its cuts one is within a lot.
        if (at % 2 + beside % 2 >= least) != (len(cuts) % 2 == 1):
            cuts.append(cut)
    return _lot_with(cuts)


def _text_of(pieces):
    if not pieces:
        return "none"
    return " ".join([_word_of(piece) for piece in pieces])


def _word_of(piece):
    low, high, first, last = piece
    if low == high:
        return f"[{fraction_text(low)}]"
    opening, closing = "[" if first else "(", "]" if last else ")"
    return f"{opening}{fraction_text(low)},{fraction_text(high)}{closing}"


def _digits_of(number):
    groups = []
    while number >= _GROUP:
        number, group = divmod(number, _GROUP)
        groups.append(str(group).zfill(_DIGITS))
    groups.append(str(number))
    return "".join(groups[::-1])


def _read_pieces(text):
    """What a text tells in the place of pieces; whether these are pieces, and have this text, is asked by itself."""
    if text == "none":
        return ()
    pieces = []
    for word in text.split(" "):
        ends = [_read_fraction(part) for part in word[1:-1].split(",")]
        pieces.append((ends[0], ends[-1], word[:1] == "[", word[-1:] == "]"))
    return tuple(pieces)


def _read_fraction(text):
    """The pair that a text tells, None if it tells none."""
    top, _, bottom = text.partition("/")
    if not _are_digits(top) or not _are_digits(bottom):
        return None
    return _read_digits(top), _read_digits(bottom)


def _are_digits(text):
    return text.isascii() and text.isdigit()


def _read_digits(text):
    head = len(text) % _DIGITS
    number = int(text[:head] or "0")
    for at in range(head, len(text), _DIGITS):
        number = number * _GROUP + int(text[at:at + _DIGITS])
    return number
