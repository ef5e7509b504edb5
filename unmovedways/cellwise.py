"""Cells that give channels to their local calls alone."""

from unmovedways.events import NO_CHANNEL, fitting
from unmovedways.states import WIDE, is_bearing


def lowest_free(state, cell):
    """Returns the lowest channel that a local call in the cell fits, or -1 if there is none."""
    channels = fitting(state, cell)
    return channels[0] if len(channels) > 0 else NO_CHANNEL


def cellwise_pick(state, where):
    """Returns the lowest channel for a local call and the highest for a wide one, or -1."""
    if where != WIDE:
        return lowest_free(state, where)
    channels = fitting(state, WIDE)
    return channels[-1] if len(channels) > 0 else NO_CHANNEL


def is_low(house, state):
    """Tells whether every bearing channel has a number below the greatest limit."""
    return not any([is_bearing(content) for content in state[house.greatest:]])
