"""States: the contents of the channels and the loads that follow from them."""

from unmovedways.errors import InvalidState, OverLimit

WIDE = -1
FREE = ()
WIDE_CONTENT = (-1,)


class Loads:
    """A fixed row of numbers, one for each cell or link."""

    def __init__(self, counts):
        self.counts = tuple(counts)

    def __add__(self, other):
        return Loads([mine + more for mine, more in zip(self.counts, other.counts)])

    def __sub__(self, other):
        return Loads([mine - less for mine, less in zip(self.counts, other.counts)])

    def __getitem__(self, at):
        # Python would count a negative index from the end, but here it is no index.
        if at < 0:
            raise IndexError("no number has a negative index")
        return self.counts[at]

    def __len__(self):
        return len(self.counts)

    def __iter__(self):
        return iter(self.counts)

    def within(self, limits):
        """Tells whether no number is greater than the limit at the same index."""
        return all([count <= limit for count, limit in zip(self.counts, limits)])


def empty_state(house):
    """Returns the state in which every channel is free."""
    return [FREE] * house.channels


def is_bearing(content):
    """Tells whether a channel with this content carries a local call."""
    return len(content) > 0 and content[0] != WIDE


def is_content(content, cells):
    """Tells whether a channel of a house with so many cells can have this content."""
    if content == WIDE_CONTENT:
        return True
    before = -1
    for cell in content:
        if not before < cell < cells:
            return False
        before = cell
    return True


def check_state(house, state):
    """Raises the error of a state that is not valid for the house."""
    if len(state) != house.channels:
        raise InvalidState(-1)
    for channel, content in enumerate(state):
        if not is_content(content, house.cells):
            raise InvalidState(channel)
    for cell, load in enumerate(loads(house, state)):
        if load > house.limits[cell]:
            raise OverLimit(cell)
    if wide_count(state) > house.wide_limit:
        raise OverLimit(WIDE)


def loads(house, state):
    """Returns the load of each cell."""
    counts = [wide_count(state)] * house.cells
    for content in state:
        if is_bearing(content):
            for cell in content:
                counts[cell] += 1
    return Loads(counts)


def call_loads(cells, where):
    """Returns what one call adds to the loads of so many cells."""
    return Loads([1 if where in (WIDE, cell) else 0 for cell in range(cells)])


def wide_count(state):
    """Returns the number of wide calls of the state."""
    return len([content for content in state if content == WIDE_CONTENT])


def kinds(state):
    """Returns the contents of the state in ascending order."""
    return tuple(sorted(state))
