"""Mending: ending or moving as few calls as possible."""

from unmovedways.errors import ChannelTaken, Hopeless, NoWay
from unmovedways.events import with_call, without_call
from unmovedways.grants import safe_channels
from unmovedways.need import bearing, leaves, level, lots, need, outside_allowed, outside_count, outside_limit
from unmovedways.states import FREE, empty_state, is_bearing


def calls_to_end(house, state):
    """Returns the fewest local calls without which the state is safe."""
    empty = need(house, empty_state(house))
    if empty > house.channels:
        raise Hopeless(empty)
    plans = []
    for lot in [(), *lots(house.cells)]:
        plans.extend(_plans(house, state, lot))
    return sorted(min(plans, key=len))


def _plans(house, state, lot):
    """Returns, for each number of bearing channels that the lot can keep safe, the fewest calls to end."""
    goals = []
    # To allow more bearing channels than the level would leave no more room outside of the lot.
    for most in range(house.greatest, level(house, state) + 1):
        allowed_outside = outside_allowed(house, lot, most)
        if _is_plan(house, lot, most, allowed_outside):
            unborne = max(0, bearing(state) - most)
            inward = max(0, outside_count(state, lot) - allowed_outside)
            goals.append((unborne, inward))
    if len(goals) == 0:
        return []
    table = _fewest_calls(state, lot, goals)
    return [table[goal] for goal in goals]


def _is_plan(house, lot, most, allowed_outside):
    if len(lot) == 0:
        return most + house.wide_bound <= house.channels
    return outside_limit(house, lot) <= allowed_outside


def _fewest_calls(state, lot, goals):
    """Returns for each pair of numbers the fewest calls to end.

    Without these calls at least so many channels as the first number says are not bearing any more, and
    at least so many as the second one says carry no call outside of the lot any more.
    """
    pairs = _pairs_up_to(max([unborne for unborne, _ in goals]), max([inward for _, inward in goals]))
    table = {(0, 0): ()}
    for channel, content in enumerate(state):
        if is_bearing(content):
            losses = _losses(channel, content, lot)
            rows = [(pair, _best_entry(table, pair, losses)) for pair in pairs]
            table = {pair: calls for pair, calls in rows if calls is not None}
    return table


def _pairs_up_to(most_unborne, most_inward):
    return [(unborne, inward) for unborne in range(most_unborne + 1) for inward in range(most_inward + 1)]


def _losses(channel, content, lot):
    """Returns what the channel can lose, as triples: whether it bears no call then, turns inward, and the calls."""
    calls = tuple([(channel, cell) for cell in content])
    if not leaves(content, lot):
        return [(1, 0, calls)]
    outside = tuple([(channel, cell) for cell in content if cell not in lot])
    return [(1, 1, calls), (0, 1, outside)]


def _best_entry(table, pair, losses):
    """Returns the fewest calls for a pair once a further channel may lose calls, or None if it is out of reach."""
    best = table.get(pair)
    for unborne, inward, calls in losses:
        before = table.get((max(0, pair[0] - unborne), max(0, pair[1] - inward)))
        if before is not None and (best is None or len(before) + len(calls) < len(best)):
            best = before + calls
    return best


def apply_moves(state, moves):
    """Returns the state after the moves, made in order."""
    after = list(state)
    for cell, source, target in moves:
        left = without_call(after, source, cell)
        # The call itself still stands on its source when the target is looked at.
        if target == source:
            raise ChannelTaken(target)
        after = with_call(left, target, cell)
    return after


def moves_to_safety(house, state):
    """Returns the fewest moves after which the state is safe."""
    calls = calls_to_end(house, state)
    after = list(state)
    for channel, cell in calls:
        after = without_call(after, channel, cell)
    moves = []
    for channel, cell in calls:
        # A grant that lost a call of this cell would mean that fewer calls could have been ended.
        target = safe_channels(house, after, cell)[0]
        after = with_call(after, target, cell)
        moves.append((cell, channel, target))
    return moves


def pack_moves(state, most):
    """Returns the fewest moves after which at most so many channels are bearing."""
    if _most_in_a_cell(state) > most:
        raise NoWay(most)
    return _packing(state, most)


def way_moves(state):
    """Returns the fewest moves after which some channel is free."""
    if FREE in state:
        return []
    most = bearing(state) - 1
    if _most_in_a_cell(state) > most:
        raise NoWay(0)
    return _packing(state, most)


def _most_in_a_cell(state):
    """Returns the greatest number of local calls that a cell has."""
    counts = {}
    for content in state:
        if is_bearing(content):
            for cell in content:
                counts[cell] = counts.get(cell, 0) + 1
    return max(list(counts.values()), default=0)


def _packing(state, most):
    """Returns moves that empty the bearing channels with the fewest calls, if no cell has more calls than most."""
    row = sorted([(len(content), channel) for channel, content in enumerate(state) if is_bearing(content)])
    many = max(0, len(row) - most)
    kept = [channel for _, channel in row[many:]]
    after = list(state)
    moves = []
    for _, source in row[:many]:
        for cell in state[source]:
            target = [channel for channel in kept if cell not in after[channel]][0]
            moves.append((cell, source, target))
            after = with_call(after, target, cell)
    return moves
