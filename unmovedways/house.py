"""Houses: the limits of the cells and the number of channels."""

from unmovedways.errors import InvalidHouse

MOST_CELLS = 5
MOST_LIMIT = 20
MOST_CHANNELS = 24


class House:
    """A few cells with their limits, a number of channels and a limit on wide calls."""

    def __init__(self, limits, *, channels=8, wide_limit=20):
        self.limits = tuple(limits)
        self.channels = channels
        self.wide_limit = wide_limit
        if not _keeps_bounds(self.limits, channels, wide_limit):
            raise InvalidHouse()

    @property
    def cells(self):
        return len(self.limits)

    @property
    def greatest(self):
        return max(self.limits)

    @property
    def least(self):
        return min(self.limits)

    @property
    def total(self):
        return sum(self.limits)

    @property
    def wide_bound(self):
        return min(self.wide_limit, min(self.limits))

    def changed(self, *, limits=None, channels=None, wide_limit=None):
        """Returns the house with the values that are passed in place of its own."""
        return House(
            self.limits if limits is None else limits,
            channels=self.channels if channels is None else channels,
            wide_limit=self.wide_limit if wide_limit is None else wide_limit,
        )


def _keeps_bounds(limits, channels, wide_limit):
    if not 1 <= len(limits) <= MOST_CELLS:
        return False
    for limit in limits:
        if not 1 <= limit <= MOST_LIMIT:
            return False
    return 0 <= channels <= MOST_CHANNELS and 0 <= wide_limit <= MOST_LIMIT
