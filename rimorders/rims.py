"""Rims: sightings that are noted one after the other, and the steps that fit them."""

from rimorders.checks import check_index
from rimorders.errors import NoStep, TooMany
from rimorders.history import History, Trial
from rimorders.limits import MOST_SIGHTINGS
from rimorders.lots import both, simplest, whole_lot
from rimorders.sightings import check_sighting, lot_of, lot_of_all
from rimorders.telling import judge


class Noted:
    """Sightings, and the lot of the steps that make all of them right."""

    def __init__(self, told, fitting):
        self.told = told
        self.fitting = fitting


class Rim:
    """Sightings that some step makes right, all of them."""

    def __init__(self):
        self._history = History(Noted((), whole_lot()))

    @property
    def sightings(self):
        """What is noted, in this order."""
        return self._history.now.state.told

    @property
    def lot(self):
        """The lot of the steps that fit."""
        return self._history.now.state.fitting

    @property
    def simplest(self):
        """The simplest step that fits."""
        return simplest(self.lot)

    @property
    def changes(self):
        """How many deeds can be taken back."""
        return self._history.now.depth

    def note(self, sighting):
        """Notes a sighting more."""
        check_sighting(sighting)
        if len(self.sightings) == MOST_SIGHTINGS:
            raise TooMany(MOST_SIGHTINGS)
        fitting = both(self.lot, lot_of(sighting))
        if not fitting.pieces:
            raise NoStep()
        self._history.go_on(Noted(self.sightings + (sighting,), fitting))

    def forget(self, index):
        """Takes a sighting away."""
        check_index(index, len(self.sightings))
        left = self.sightings[:index] + self.sightings[index + 1:]
        self._history.go_on(Noted(left, lot_of_all(left)))

    def undo(self):
        """Takes back the last deed."""
        self._history.go_back()

    def judge(self, sighting):
        """What is told of a sighting by the steps that fit."""
        return judge(self.lot, sighting)

    def trial(self):
        """For a with statement, behind which the rim is as it was."""
        return Trial(self._history, self, False)

    def tried(self, action):
        """What an action with the rim returns, behind which the rim is as it was."""
        with self.trial():
            return action(self)
