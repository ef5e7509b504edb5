"""Planning: which limits can be promised with how many channels."""

from unmovedways.house import MOST_LIMIT, House
from unmovedways.need import is_safe, need
from unmovedways.states import loads


def empty_need(limits, *, wide_limit=20):
    """Returns the need of the empty house with these limits."""
    house = House(limits, channels=0, wide_limit=wide_limit)
    return _need_at(house.greatest, house.limits, wide_limit)


def _need_at(ground, limits, wide_limit):
    """Returns the greatest need that a valid state of this level can have."""
    shared = (sum(limits) - ground) // len(limits)
    return ground + min(wide_limit, min(limits), shared)


def carefree_need(limits, *, wide_limit=20):
    """Returns the least number of channels with which every valid state is safe."""
    house = House(limits, channels=0, wide_limit=wide_limit)
    if wide_limit == 0:
        return house.greatest
    return house.total - house.cells + 1


def zone(house):
    """Tells whether no state of the house is safe, every state, or only some."""
    if house.channels < empty_need(house.limits, wide_limit=house.wide_limit):
        return "hopeless"
    if house.channels >= carefree_need(house.limits, wide_limit=house.wide_limit):
        return "carefree"
    return "careful"


def room(house):
    """Returns up to how many bearing channels every state is safe, or -1 if none is."""
    for ground in range(min(house.channels, house.total), house.greatest - 1, -1):
        if _need_at(ground, house.limits, house.wide_limit) <= house.channels:
            return ground
    return -1


def greatest_wide_limit(house, state):
    """Returns the greatest wide limit with which the state is safe, or -1 if there is none."""
    for wide_limit in range(MOST_LIMIT, -1, -1):
        if need(house.changed(wide_limit=wide_limit), state) <= house.channels:
            return wide_limit
    return -1


def greatest_limit(house, state, cell):
    """Returns the greatest limit of the cell with which the state is safe, or 0 if there is none."""
    limits = list(house.limits)
    for limit in range(MOST_LIMIT, max(1, loads(house, state)[cell]) - 1, -1):
        limits[cell] = limit
        if is_safe(house.changed(limits=limits), state):
            return limit
    return 0


def offers(channels, cells, *, wide_limit=20):
    """Returns the limits that can be promised and of which none can be raised alone."""
    rows = _falling_rows(cells, min(channels, MOST_LIMIT))
    return [row for row in rows if _is_offer(row, channels, wide_limit)]


def _falling_rows(cells, most):
    """Returns all rows of limits up to this one, none greater than the one before, in descending order."""
    rows = [()]
    for _ in range(cells):
        rows = [row + (limit,) for row in rows for limit in range(min([most, *row]), 0, -1)]
    return rows


def _is_offer(row, channels, wide_limit):
    if _need_at(max(row), row, wide_limit) > channels:
        return False
    for cell, limit in enumerate(row):
        raised = list(row)
        raised[cell] = limit + 1
        if limit < MOST_LIMIT and _need_at(max(raised), raised, wide_limit) <= channels:
            return False
    return True
