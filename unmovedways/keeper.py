"""Keepers: giving channels for ever without asking for the need again."""

from unmovedways.errors import Refused
from unmovedways.events import fitting
from unmovedways.need import find_lot, leaves, level, outside_allowed
from unmovedways.states import is_bearing


class Keeper:
    """Keeps the bearing channels few, and those few that carry local calls outside of a lot."""

    def __init__(self, house, state):
        self.lot = find_lot(house, state)
        self.most_bearing = level(house, state)
        self.most_outside = outside_allowed(house, self.lot, self.most_bearing)

    def __call__(self, state, where):
        channels = fitting(state, where)
        used = [channel for channel in channels if is_bearing(state[channel])]
        # A call outside of the lot does no harm on a channel that carries such a call already.
        outside = [] if where in self.lot else [channel for channel in used if leaves(state[channel], self.lot)]
        for row in (outside, used, channels):
            if len(row) > 0:
                return row[0]
        raise Refused(where)
