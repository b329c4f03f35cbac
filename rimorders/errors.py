"""The errors of the package, each one under one of three base classes."""


class NotRight(ValueError):
    """What was passed is not as it has to be."""


class InvalidText(NotRight):
    """No text of a lot."""

    def __init__(self, given):
        self.given = given


class InvalidNumber(NotRight):
    """No integer, or one out of its bounds."""

    def __init__(self, given):
        self.given = given


class InvalidName(NotRight):
    """No name."""

    def __init__(self, given):
        self.given = given


class InvalidIndex(NotRight):
    """No index of one of these."""

    def __init__(self, given):
        self.given = given


class InvalidStep(NotRight):
    """No step."""

    def __init__(self, given):
        self.given = given


class InvalidArc(NotRight):
    """No end of an arc."""

    def __init__(self, given):
        self.given = given


class InvalidSighting(NotRight):
    """No sighting."""

    def __init__(self, given):
        self.given = given


class InvalidClaim(NotRight):
    """No claim of a desk."""

    def __init__(self, given):
        self.given = given


class InvalidCommand(NotRight):
    """No command of a console."""

    def __init__(self, given):
        self.given = given


class NotALot(NotRight):
    """No lot."""

    def __init__(self, given):
        self.given = given


class InvalidPieces(NotRight):
    """No pieces of a lot."""

    def __init__(self, index):
        self.index = index


class InvalidOrder(NotRight):
    """No row of tuples of marks."""

    def __init__(self, index):
        self.index = index


class InvalidSightings(NotRight):
    """No tuple of sightings, or too many of them."""

    def __init__(self, index):
        self.index = index


class NotKnown(LookupError):
    """What was asked for is not there, or is still needed."""


class UnknownName(NotKnown):
    """Nothing has this name."""

    def __init__(self, given):
        self.given = given


class InUse(NotKnown):
    """A claim names what is to go."""

    def __init__(self, index):
        self.index = index


class NothingToUndo(NotKnown):
    """No change is left that can be taken back."""

    # Without an __init__ it would take any arguments.
    def __init__(self):
        pass


class NotPossible(ArithmeticError):
    """What was asked for cannot be."""


class NoStep(NotPossible):
    """No step fits."""

    # Without an __init__ it would take any arguments.
    def __init__(self):
        pass


class TooMany(NotPossible):
    """There are as many as there may be."""

    def __init__(self, most):
        self.most = most


class Broken(NotPossible):
    """A claim does not hold."""

    def __init__(self, index, shown):
        self.index = index
        self.shown = shown
