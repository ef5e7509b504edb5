"""The need of a state: how many channels it takes to go on for ever."""

from unmovedways.errors import Unsafe
from unmovedways.states import is_bearing


def lots(cells):
    """Returns all lots of so many cells but the empty one, in ascending order."""
    return sorted([_lot_of(mask, cells) for mask in range(1, 1 << cells)])


def _lot_of(mask, cells):
    return tuple([cell for cell in range(cells) if mask & (1 << cell)])


def bearing(state):
    """Returns the number of channels that carry a local call."""
    return len([content for content in state if is_bearing(content)])


def outside_count(state, lot):
    """Returns the number of channels that carry a local call outside of the lot."""
    return len([content for content in state if leaves(content, lot)])


def leaves(content, lot):
    """Tells whether a channel with this content carries a local call outside of the lot."""
    if not is_bearing(content):
        return False
    for cell in content:
        if cell not in lot:
            return True
    return False


def outside_limit(house, lot):
    """Returns the greatest limit of a cell outside of the lot, or 0 if there is none."""
    return max([limit for cell, limit in enumerate(house.limits) if cell not in lot], default=0)


def level(house, state):
    """Returns how many bearing channels the state has or can be driven to."""
    return max(bearing(state), house.greatest)


def slack(house, state, lot):
    """Returns how many wide calls a lot allows beside the level, for a lot that is not empty."""
    return _slack_above(house, state, lot, level(house, state))


def _slack_above(house, state, lot, ground):
    inside = sum([house.limits[cell] for cell in lot])
    outside = max(outside_count(state, lot), outside_limit(house, lot))
    return (inside + outside - ground) // len(lot)


def need(house, state):
    """Returns the least number of channels with which the state would be safe."""
    ground = level(house, state)
    slacks = [_slack_above(house, state, lot, ground) for lot in lots(house.cells)]
    return ground + min(house.wide_bound, min(slacks))


def is_safe(house, state):
    """Tells whether channels can be given for ever from this state on."""
    return need(house, state) <= house.channels


def holds(house, state, lot):
    """Tells whether the lot shows that the state is safe."""
    spare = house.channels - level(house, state)
    if len(lot) == 0:
        return house.wide_bound <= spare
    return spare >= 0 and slack(house, state, lot) <= spare


def find_lot(house, state):
    """Returns a lot that shows that the state is safe."""
    for lot in [(), *lots(house.cells)]:
        if holds(house, state, lot):
            return lot
    raise Unsafe(need(house, state))


def outside_allowed(house, lot, most_bearing):
    """Returns how many channels may carry local calls outside of the lot if so many at most are bearing."""
    if len(lot) == 0:
        return most_bearing
    inside = sum([house.limits[cell] for cell in lot])
    too_many = house.channels + 1 - most_bearing
    return most_bearing - 1 - inside + len(lot) * too_many
