"""Desks: lots under names, and claims about them, all of which hold after each change."""

from rimorders.checks import check_index, is_name, is_number
from rimorders.errors import Broken, InUse, InvalidClaim, InvalidName, UnknownName
from rimorders.history import History, Trial
from rimorders.limits import MOST_MARK
from rimorders.lots import check_lot, without
from rimorders.sightings import is_sighting, lot_of
from rimorders.telling import orders_in


class Kept:
    """Lots by their names, and claims about them."""

    def __init__(self, things, claimed):
        self.things = things
        self.claimed = claimed


class Desk:
    """Lots under names, and claims that hold."""

    def __init__(self):
        self._history = History(Kept({}, ()))

    @property
    def names(self):
        """The names of its lots, ascending."""
        return tuple(sorted(self._history.now.state.things))

    @property
    def claims(self):
        """What is claimed, in this order."""
        return self._history.now.state.claimed

    @property
    def changes(self):
        """How many deeds can be taken back."""
        return self._history.now.depth

    def __contains__(self, name):
        # What is no string need not even be something that can be looked up.
        return isinstance(name, str) and name in self._history.now.state.things

    def put(self, name, lot):
        """Puts a lot under a name, also in the place of what is there."""
        if not is_name(name):
            raise InvalidName(name)
        check_lot(lot)
        self._go_on_if_right({**self._history.now.state.things, name: lot}, self.claims)

    def thing(self, name):
        """The lot with this name."""
        if name not in self:
            raise UnknownName(name)
        return self._history.now.state.things[name]

    def drop(self, name):
        """Takes the lot with this name away."""
        if name not in self:
            raise UnknownName(name)
        for at, claim in enumerate(self.claims):
            if name in _names_in(claim):
                raise InUse(at)
        things = self._history.now.state.things
        left = {other: things[other] for other in things if other != name}
        self._history.go_on(Kept(left, self.claims))

    def claim(self, claim):
        """Makes a claim more."""
        if not _is_claim(claim):
            raise InvalidClaim(claim)
        for name in _names_in(claim):
            if name not in self:
                raise UnknownName(name)
        self._go_on_if_right(self._history.now.state.things, self.claims + (claim,))

    def lift(self, index):
        """Takes a claim away."""
        check_index(index, len(self.claims))
        left = self.claims[:index] + self.claims[index + 1:]
        self._history.go_on(Kept(self._history.now.state.things, left))

    def undo(self):
        """Takes back the last deed."""
        self._history.go_back()

    def trial(self):
        """For a with statement, behind which the desk is as it was if its rows end with an exception."""
        return Trial(self._history, self, True)

    def tried(self, action):
        """What an action with the desk returns; behind an exception the desk is as it was."""
        with self.trial():
            return action(self)

    def _go_on_if_right(self, things, claimed):
        """Raises Broken with the first claim that does not hold."""
        for at, claim in enumerate(claimed):
            shown = _shown_against(claim, things)
            if shown is not None:
                raise Broken(at, shown)
        self._history.go_on(Kept(things, claimed))


def _is_claim(given):
    """Whether it is one of the tuples of [11]; what stands in the place of names is not asked."""
    if not isinstance(given, tuple) or len(given) != 3 or not isinstance(given[0], str):
        return False
    word, _, told = given
    if word == "sure":
        return is_sighting(told)
    if word == "order":
        return is_number(told, 1, MOST_MARK + 1)
    return word == "inside"


def _names_in(claim):
    if claim[0] == "inside":
        return claim[1:]
    return claim[1:2]


def _shown_against(claim, things):
    """What shows that the claim does not hold, None if it does."""
    word, name, told = claim
    if word == "order":
        many = orders_in(things[name], told)
        return many if many > 1 else None
    fitting = things[told] if word == "inside" else lot_of(told)
    left = without(things[name], fitting)
    return left.text if left.pieces else None
