"""The errors that the package raises."""


class FairError(Exception):
    """The base class of all errors of the package."""


class BadWeights(FairError):
    """The thing is not weights."""

    def __init__(self, thing):
        self.thing = thing


class BadArrivals(FairError):
    """The thing is not arrivals for the weights."""

    def __init__(self, thing):
        self.thing = thing


class BadMoment(FairError):
    """The thing is not a moment."""

    def __init__(self, thing):
        self.thing = thing


class BadFlow(FairError):
    """The thing is not a flow of the weights."""

    def __init__(self, thing):
        self.thing = thing


class BadSchedule(FairError):
    """The thing is not a schedule of the arrivals."""

    def __init__(self, thing):
        self.thing = thing


class BadBucket(FairError):
    """The thing is not a bucket."""

    def __init__(self, thing):
        self.thing = thing


class BadNumber(FairError):
    """The thing is not a number of the kind that is asked for."""

    def __init__(self, thing):
        self.thing = thing


class BadRule(FairError):
    """The thing is not a rule."""

    def __init__(self, thing):
        self.thing = thing


class BadRow(FairError):
    """The thing is not a row of lines."""

    def __init__(self, thing):
        self.thing = thing


class BadPackets(FairError):
    """The thing is not packets of the flow 0."""

    def __init__(self, thing):
        self.thing = thing


class BadCalls(FairError):
    """The thing is not calls."""

    def __init__(self, thing):
        self.thing = thing


class BadState(FairError):
    """The thing is not a state of a line."""

    def __init__(self, thing):
        self.thing = thing


class BadText(FairError):
    """The value is no text: at is 0 if it is no string, otherwise the number of the first wrong line."""

    def __init__(self, at):
        self.at = at
