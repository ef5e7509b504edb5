"""The adversary: a player who brings a state that is not safe to a call without a channel."""

from unmovedways.errors import SafeState
from unmovedways.kept import choose_kept
from unmovedways.need import level, need
from unmovedways.states import WIDE, WIDE_CONTENT, is_bearing, loads


class Adversary:
    """Fills all cells, leaves local calls on as many channels as possible, and sends wide calls."""

    def __init__(self, house, state):
        needed = need(house, state)
        if needed <= house.channels:
            raise SafeState(needed)
        self.level = level(house, state)
        self.crowd = max(0, house.channels + 1 - self.level)
        self.bound = 2 * (house.total + house.least)
        self.count = 0
        self._house = house
        self._kept = None

    def next_event(self, state):
        """Returns the next event, for the state that the last one led to."""
        event = self._filling(state) if self._kept is None else None
        if event is None:
            event = self._thinning(state)
        self.count += 1
        return event

    def _filling(self, state):
        """Returns an event towards full cells without wide calls, or None once they are so."""
        if WIDE_CONTENT in state:
            return ("go", state.index(WIDE_CONTENT), WIDE)
        for cell, load in enumerate(loads(self._house, state)):
            if load < self._house.limits[cell]:
                return ("come", cell)
        return None

    def _thinning(self, state):
        """Returns a local call that goes, or a wide call that comes once only the kept calls are left."""
        if self._kept is None:
            # Each cell leaves room for all wide calls that are to come.
            rooms = [limit - self.crowd for limit in self._house.limits]
            self._kept = choose_kept(state, rooms)[0][:self.level]
        for channel, content in enumerate(state):
            if is_bearing(content):
                for cell in content:
                    if (channel, cell) not in self._kept:
                        return ("go", channel, cell)
        return ("come", WIDE)
