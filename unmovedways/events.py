"""Events and records: calls that come and go."""

from unmovedways.errors import ChannelTaken, NoSuchCall, OverLimit
from unmovedways.states import FREE, WIDE, call_loads, loads, wide_count

NO_CHANNEL = -1


def allowed(house, state, event):
    """Tells whether the event may happen in this state."""
    if event[0] == "come":
        return _may_come(house, state, event[1])
    return _carries(state, event[1], event[2])


def _may_come(house, state, where):
    if where == WIDE and wide_count(state) >= house.wide_limit:
        return False
    return (loads(house, state) + call_loads(house.cells, where)).within(house.limits)


def _is_channel(state, channel):
    return 0 <= channel < len(state)


def _carries(state, channel, where):
    return _is_channel(state, channel) and where in state[channel]


def _fits(content, where):
    if where == WIDE:
        return content == FREE
    return WIDE not in content and where not in content


def fitting(state, where):
    """Returns all channels that the call fits, in ascending order."""
    return [channel for channel, content in enumerate(state) if _fits(content, where)]


def with_call(state, channel, where):
    """Returns the state with the call added to the channel."""
    if not _is_channel(state, channel) or not _fits(state[channel], where):
        raise ChannelTaken(channel)
    after = list(state)
    after[channel] = tuple(sorted([*state[channel], where]))
    return after


def without_call(state, channel, where):
    """Returns the state without the call of the channel."""
    if not _carries(state, channel, where):
        raise NoSuchCall(channel, where)
    after = list(state)
    after[channel] = tuple([cell for cell in state[channel] if cell != where])
    return after


def apply_record(house, state, record):
    """Returns the state after a record of a call that comes or goes."""
    if record[0] == "go":
        return without_call(state, record[1], record[2])
    if not _may_come(house, state, record[1]):
        raise OverLimit(record[1])
    return with_call(state, record[2], record[1])
