"""A desk worked out slowly, straight from the document: what each deed does, or which error it raises."""

from drawn import small_sighting
from plain import belongs, fractions_to, is_met, order_of, pair, pieces_from, with_middles
from rimorders.errors import Broken, InUse, InvalidClaim, InvalidIndex, InvalidName, NothingToUndo, UnknownName
from rimorders.lots import Lot

# Enough for lots with small ends and small sightings.
SMALL = with_middles(fractions_to(10))
NAMES = "a", "b", "cd", "z"
TEXTS = (
    "none", "[0/1,1/1)", "[1/3,2/5)", "(1/3,2/5)", "[1/3]", "(1/3,1/2)", "[1/4] (1/3,1/2)", "(0/1,1/2)", "[0/1]", "[3/8]",
    "[1/4,1/2]", "(0/1,1/3) (1/2,1/1)", "[0/1,1/3) [1/2,2/3]",
)


def shown_against(claim, lots):
    """What shows that a claim does not hold, None if it does."""
    word, name, told = claim
    steps = [where for where in SMALL if belongs(lots[name].pieces, where)]
    if word == "order":
        many = len({order_of(pair(where), told) for where in steps})
        return many if many > 1 else None
    if word == "inside":
        left = {where for where in steps if not belongs(lots[told].pieces, where)}
    else:
        left = {where for where in steps if not is_met(told, pair(where))}
    return Lot(pieces_from(SMALL, lambda where: where in left)).text if left else None


def names_in(claim):
    return claim[1:] if claim[0] == "inside" else claim[1:2]


class Model:

    def __init__(self):
        self.lots = {}
        self.claims = []
        self.past = []

    def expected(self, deed, *given):
        """The class and the attributes of the error that the deed raises, None if it is done."""
        told = getattr(self, deed)(*given)
        if type(told) is tuple and told and isinstance(told[0], type):
            return told
        # The past is not changed but made anew, so that it can be kept from outside.
        self.past = self.past[:-1] if deed == "undo" else [*self.past, (self.lots, self.claims)]
        self.lots, self.claims = told
        return None

    def broken(self, lots, claims):
        for at, claim in enumerate(claims):
            shown = shown_against(claim, lots)
            if shown is not None:
                return Broken, {"index": at, "shown": shown}
        return lots, claims

    def put(self, name, lot):
        if name not in NAMES:
            return InvalidName, {"given": name}
        return self.broken({**self.lots, name: lot}, self.claims)

    def drop(self, name):
        if name not in self.lots:
            return UnknownName, {"given": name}
        for at, claim in enumerate(self.claims):
            if name in names_in(claim):
                return InUse, {"index": at}
        return {other: lot for other, lot in self.lots.items() if other != name}, self.claims

    def claim(self, claim):
        if claim[0] not in ("inside", "sure", "order"):
            return InvalidClaim, {"given": claim}
        for name in names_in(claim):
            if name not in self.lots:
                return UnknownName, {"given": name}
        return self.broken(self.lots, [*self.claims, claim])

    def lift(self, index):
        if not 0 <= index < len(self.claims):
            return InvalidIndex, {"given": index}
        return self.lots, self.claims[:index] + self.claims[index + 1:]

    def undo(self):
        if not self.past:
            return NothingToUndo, {}
        return self.past[-1]


def drawn_claim(source):
    word = source.choice(("inside", "sure", "sure", "order", "wrong"))
    name = source.choice(NAMES)
    if word == "inside":
        return word, name, source.choice(NAMES)
    if word == "sure":
        return word, name, small_sighting(source)
    return word, name, source.randrange(1, 9)


def drawn_deed(source, model):
    """The name of a method, and what it is passed."""
    deed = source.choice(("put", "put", "put", "drop", "claim", "claim", "claim", "claim", "lift", "undo"))
    if deed == "put":
        return deed, source.choice(NAMES + ("A", "")), Lot.read(source.choice(TEXTS))
    if deed == "drop":
        return deed, source.choice(NAMES + ("e",))
    if deed == "claim":
        return deed, drawn_claim(source)
    if deed == "lift":
        return deed, source.randrange(-1, len(model.claims) + 2)
    return deed,
