"""Closing channels: which may be kept free of new calls."""

from unmovedways.errors import Unsafe
from unmovedways.need import is_safe, leaves, lots, need
from unmovedways.states import is_bearing


def rest_house(house, closed):
    """Returns the house with the channels that are not closed."""
    return house.changed(channels=house.channels - len(closed))


def rest_state(state, closed):
    """Returns the contents of the channels that are not closed."""
    return [content for channel, content in enumerate(state) if channel not in closed]


def may_close(house, state, closed):
    """Tells whether the other channels are enough for all calls that may come."""
    return is_safe(rest_house(house, closed), rest_state(state, closed))


def closable(house, state):
    """Returns as many channels as possible that may be closed at the same time."""
    if not is_safe(house, state):
        raise Unsafe(need(house, state))
    best = []
    for lot in lots(house.cells):
        row = _closing_row(state, lot)
        # Any fewer of closable channels are closable, too, so one more than the best decides.
        # The row is never used up: all channels together may not be closed.
        while may_close(house, state, row[:len(best) + 1]):
            best = row[:len(best) + 1]
    return sorted(best)


def _closing_row(state, lot):
    """Returns all channels, those first whose calls count most against the lot."""
    outside = [channel for channel, content in enumerate(state) if leaves(content, lot)]
    inside = [channel for channel, content in enumerate(state) if is_bearing(content) and channel not in outside]
    rest = [channel for channel, content in enumerate(state) if not is_bearing(content)]
    return outside + inside + rest
