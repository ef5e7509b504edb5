"""All errors of the program."""


class UnmovedError(ValueError):
    """The base class of all errors of the program."""


class InvalidHouse(UnmovedError):
    """The values are no house."""


class InvalidNet(UnmovedError):
    """The values are no net."""


class InvalidState(UnmovedError):
    """The content of a channel is wrong, or (channel -1) the number of contents."""

    def __init__(self, channel):
        self.channel = channel


class OverLimit(UnmovedError):
    """A cell, the wide calls (-1) or a link would be above its limit."""

    def __init__(self, where):
        self.where = where


class ChannelTaken(UnmovedError):
    """The call does not fit the channel, or the channel is in use."""

    def __init__(self, channel):
        self.channel = channel


class NoSuchChannel(UnmovedError):
    """There is no such channel to close or to open again."""

    def __init__(self, channel):
        self.channel = channel


class NoSuchCall(UnmovedError):
    """The channel does not carry the call."""

    def __init__(self, channel, where):
        self.channel = channel
        self.where = where


class Unsafe(UnmovedError):
    """The state needs more channels than there are."""

    def __init__(self, need):
        self.need = need


class SafeState(UnmovedError):
    """The state is safe, so no adversary can beat it."""

    def __init__(self, need):
        self.need = need


class Hopeless(UnmovedError):
    """Even the empty house needs more channels than there are."""

    def __init__(self, need):
        self.need = need


class Refused(UnmovedError):
    """The call fits no channel."""

    def __init__(self, where):
        self.where = where


class InvalidText(UnmovedError):
    """The text is no written form."""

    def __init__(self, text):
        self.text = text


class InvalidRule(UnmovedError):
    """The order of a cell is wrong."""

    def __init__(self, cell):
        self.cell = cell


class TooLarge(UnmovedError):
    """The house has too many states to look at."""

    def __init__(self, size):
        self.size = size


class NoWay(UnmovedError):
    """No moves lead to so few bearing channels."""

    def __init__(self, most):
        self.most = most


class NothingLeft(UnmovedError):
    """There are fewer records to take back or to do again."""

    def __init__(self, count):
        self.count = count


class InvalidRoute(UnmovedError):
    """The route is wrong at a place, or (place -1) as a list of links."""

    def __init__(self, place):
        self.place = place


class NoSuchBooking(UnmovedError):
    """No standing booking has this number."""

    def __init__(self, number):
        self.number = number


class BlockedBy(UnmovedError):
    """A booking stands in the way."""

    def __init__(self, number):
        self.number = number


class BadLog(UnmovedError):
    """A line of a log is wrong."""

    def __init__(self, line):
        self.line = line


class NoLetter(UnmovedError):
    """No letter under way has this index."""

    def __init__(self, index):
        self.index = index
