"""Desks: a house at work, with records that can be taken back."""

from unmovedways.closing import may_close, rest_house, rest_state
from unmovedways.errors import ChannelTaken, InvalidHouse, NoSuchChannel, NothingLeft, Unsafe
from unmovedways.events import with_call, without_call
from unmovedways.grants import check_coming, safe_channels
from unmovedways.need import need
from unmovedways.states import FREE, check_state, empty_state


class Desk:
    """A house with its state and its closed channels; the channels that are not closed always suffice."""

    def __init__(self, house, state=None):
        contents = empty_state(house) if state is None else list(state)
        check_state(house, contents)
        _check_rest(house, contents, ())
        self.house = house
        self._state = contents
        self._closed = ()
        self._beginning = (house, contents)
        self._records = []
        # What stood before each record, and the records taken back with what stood after each.
        self._pasts = []
        self._undone = []

    def __iter__(self):
        return iter(self._records)

    def __len__(self):
        return len(self._records)

    @property
    def state(self):
        return list(self._state)

    @property
    def closed(self):
        return self._closed

    @property
    def spare(self):
        rest = rest_state(self._state, self._closed)
        return len(rest) - need(self.house, rest)

    def beginning(self):
        """Returns the house and the state that the desk began with."""
        house, state = self._beginning
        return (house, list(state))

    def grants(self, where):
        """Returns the channels that may be given to a call, in ascending order."""
        # The calls on closed channels count for the limits, but not for the safety of the rest.
        check_coming(self.house, self._state, where)
        house = rest_house(self.house, self._closed)
        rest = rest_state(self._state, self._closed)
        unclosed = [channel for channel in range(self.house.channels) if channel not in self._closed]
        return [unclosed[at] for at in safe_channels(house, rest, where)]

    def come(self, where, *, wish=0):
        """Gives a call one of its grants, and returns this channel."""
        channels = self.grants(where)
        channel = channels[wish % len(channels)]
        state = with_call(self._state, channel, where)
        self._put(("come", where, channel), self.house, state, self._closed)
        return channel

    def go(self, channel, where):
        """Removes a call."""
        state = without_call(self._state, channel, where)
        self._put(("go", channel, where), self.house, state, self._closed)

    def close(self, channel):
        """Closes a channel to calls that come."""
        if not 0 <= channel < self.house.channels or channel in self._closed:
            raise NoSuchChannel(channel)
        closed = tuple(sorted([*self._closed, channel]))
        _check_rest(self.house, self._state, closed)
        self._put(("close", channel), self.house, self._state, closed)

    def reopen(self, channel):
        """Opens a closed channel again."""
        if channel not in self._closed:
            raise NoSuchChannel(channel)
        closed = tuple([other for other in self._closed if other != channel])
        self._put(("reopen", channel), self.house, self._state, closed)

    def change(self, *, limits=None, channels=None, wide_limit=None):
        """Replaces the values of the house that are passed."""
        house = self.house.changed(limits=limits, channels=channels, wide_limit=wide_limit)
        if house.cells != self.house.cells:
            raise InvalidHouse()
        state = _resized(self._state, house.channels)
        closed = tuple([channel for channel in self._closed if channel < house.channels])
        check_state(house, state)
        _check_rest(house, state, closed)
        record = ("change", house.limits, house.channels, house.wide_limit)
        self._put(record, house, state, closed)

    def undo(self, count=1):
        """Takes back the last records, so many of them."""
        if count > len(self._records):
            raise NothingLeft(count)
        for _ in range(count):
            self._undone.append((self._records.pop(), self._moment()))
            self.house, self._state, self._closed = self._pasts.pop()

    def redo(self, count=1):
        """Does records again that were taken back, so many of them."""
        if count > len(self._undone):
            raise NothingLeft(count)
        for _ in range(count):
            record, moment = self._undone.pop()
            self._enter(record, moment)

    def _moment(self):
        return (self.house, self._state, self._closed)

    def _put(self, record, house, state, closed):
        """Records a new deed, which leaves nothing to be done again."""
        self._undone = []
        self._enter(record, (house, state, closed))

    def _enter(self, record, moment):
        self._records.append(record)
        self._pasts.append(self._moment())
        self.house, self._state, self._closed = moment


def _check_rest(house, state, closed):
    if not may_close(house, state, closed):
        raise Unsafe(need(house, rest_state(state, closed)))


def _resized(state, channels):
    """Returns the state with so many channels, the last ones taken away or new ones added."""
    for channel in range(channels, len(state)):
        if state[channel] != FREE:
            raise ChannelTaken(channel)
    return state[:channels] + [FREE] * (channels - len(state))
