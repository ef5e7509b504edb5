"""Kept calls: as many local calls on different channels as the cells have room for."""

from unmovedways.states import is_bearing


def choose_kept(state, rooms):
    """Returns the calls that are kept and a lot that shows that there cannot be more."""
    kept = {}
    for channel, content in enumerate(state):
        if is_bearing(content):
            _keep_one(state, rooms, kept, channel, {})
    pairs = sorted([(channel, kept[channel]) for channel in kept])
    return (pairs, _full_lot(state, kept))


def _keep_one(state, rooms, kept, channel, tried):
    """Keeps a call of the channel, if need be by giving kept channels other cells."""
    for cell in state[channel]:
        if cell not in tried:
            tried[cell] = True
            if _has_room(state, rooms, kept, cell, tried):
                kept[channel] = cell
                return True
    return False


def _has_room(state, rooms, kept, cell, tried):
    holders = _holders(kept, cell)
    if len(holders) < rooms[cell]:
        return True
    for holder in holders:
        if _keep_one(state, rooms, kept, holder, tried):
            return True
    return False


def _holders(kept, cell):
    return [channel for channel in kept if kept[channel] == cell]


def _full_lot(state, kept):
    """Returns the cells that a channel without a kept call could have used, directly or by exchange."""
    lot = {}
    waiting = [channel for channel, content in enumerate(state) if is_bearing(content) and channel not in kept]
    while len(waiting) > 0:
        channel = waiting.pop()
        for cell in state[channel]:
            if cell not in lot:
                lot[cell] = True
                waiting.extend(_holders(kept, cell))
    return tuple(sorted(lot))
