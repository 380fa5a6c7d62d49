"""The errors of the package [20]: each keeps the arguments of its constructor as fields."""


class FlowError(ValueError):
    """Above all errors of the package."""


class Wrong(FlowError):
    """The argument with this place is not as described."""

    def __init__(self, place):
        self.place = place


class BadJoin(FlowError):
    """The table is not one of joins: a tuple of values tells where."""

    def __init__(self, which):
        self.which = which


class NoRise(FlowError):
    """The map of a statement does not rise from low to high."""

    def __init__(self, name, low, high):
        self.name = name
        self.low = low
        self.high = high


class NoStatement(FlowError):
    """There is no statement with this name."""

    def __init__(self, name):
        self.name = name


class NoPlace(FlowError):
    """The program has no such place."""

    def __init__(self, place):
        self.place = place


class Unreached(FlowError):
    """The place is not reached."""

    def __init__(self, place):
        self.place = place


class Unlike(FlowError):
    """What is compared is too unlike for it."""

    def __init__(self):
        pass


class TooMany(FlowError):
    """There are more than the limit."""

    def __init__(self, limit):
        self.limit = limit


class Absent(FlowError):
    """The value is not there, or does not come."""

    def __init__(self, value):
        self.value = value


class Full(FlowError):
    """There is no room beyond the limit."""

    def __init__(self, limit):
        self.limit = limit


class NoDeed(FlowError):
    """What is to be done is no deed."""

    def __init__(self):
        pass


class Nothing(FlowError):
    """There is nothing to undo, or to do again."""

    def __init__(self):
        pass


class Refused(FlowError):
    """The deed can not be done as things stand."""

    def __init__(self, deed):
        self.deed = deed


class NoEntry(FlowError):
    """There is no entry of a log at this index."""

    def __init__(self, at):
        self.at = at


class NoText(FlowError):
    """Nothing has this text."""

    def __init__(self):
        pass


class NoCommand(FlowError):
    """The line is no command."""

    def __init__(self):
        pass
