"""What can be taken back: the states of a rim or a desk, and trials that go back by themselves."""

from rimorders.errors import NothingToUndo


class Moment:
    """A state, and the moment ahead of the deed that led to it; the first one has none."""

    def __init__(self, state, ahead, depth):
        self.state = state
        self.ahead = ahead
        self.depth = depth


class History:
    """The moment that is now; states are never changed, so that each earlier one stays as it was."""

    def __init__(self, state):
        self.now = Moment(state, None, 0)

    def go_on(self, state):
        """A deed has led to this state."""
        self.now = Moment(state, self.now, self.now.depth + 1)

    def go_back(self):
        """Takes back the last deed; NothingToUndo."""
        if self.now.ahead is None:
            raise NothingToUndo()
        self.now = self.now.ahead


class Start:
    """Where a use of a trial began, and the start of the use around it, None if there is none."""

    def __init__(self, moment, outer):
        self.moment = moment
        self.outer = outer


class Trial:
    """For a with statement: when its rows end all is as it was when they began, unless it keeps what ends well."""

    def __init__(self, history, holder, keeps):
        self._history = history
        self._holder = holder
        # None in the place of False: as lots have an __eq__, __exit__ asks of an attribute only whether it is None.
        self._keeps = keeps or None
        self._start = None

    def __enter__(self):
        # It may be used within itself, so that each use has a start of its own.
        self._start = Start(self._history.now, self._start)
        return self._holder

    def __exit__(self, kind, value, trace):
        if kind is not None or self._keeps is None:
            self._history.now = self._start.moment
        self._start = self._start.outer
