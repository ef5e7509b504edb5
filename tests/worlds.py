"""Small houses with all their states, worked out without the package's own answers."""

from itertools import combinations, combinations_with_replacement, product


def subsets(cells):
    return [row for size in range(cells + 1) for row in combinations(range(cells), size)]


def contents(cells):
    return sorted([(-1,)] + subsets(cells))


def loads_of(house, state):
    wides = sum(content == (-1,) for content in state)
    return [wides + sum(cell in content for content in state) for cell in range(len(house.limits))]


def is_valid(house, state):
    wides = sum(content == (-1,) for content in state)
    within = all(load <= limit for load, limit in zip(loads_of(house, state), house.limits))
    return within and wides <= house.wide_limit


def all_kinds(house):
    """All valid states, each with its contents in ascending order."""
    rows = combinations_with_replacement(contents(len(house.limits)), house.channels)
    return [row for row in rows if is_valid(house, row)]


def may_come(house, state, where):
    wides = sum(content == (-1,) for content in state)
    row = [load + (where in (-1, cell)) for cell, load in enumerate(loads_of(house, state))]
    within = all(load <= limit for load, limit in zip(row, house.limits))
    return within and (where != -1 or wides < house.wide_limit)


def fits(content, where):
    return content == () if where == -1 else -1 not in content and where not in content


def fitting_channels(state, where):
    return [channel for channel, content in enumerate(state) if fits(content, where)]


def added(state, channel, where):
    """The state with the call on the channel, as a tuple."""
    return tuple(
        tuple(sorted(content + (where,))) if at == channel else content for at, content in enumerate(state)
    )


def removed(state, channel, where):
    """The state without the call, as a tuple."""
    return tuple(
        tuple(cell for cell in content if cell != where) if at == channel else content
        for at, content in enumerate(state)
    )


def all_calls(state):
    return [(channel, where) for channel, content in enumerate(state) for where in content]


def drawn_state(house, draw, steps):
    """A valid state that drawn allowed events lead to, each call on a drawn channel."""
    state = tuple(() for _ in range(house.channels))
    for _ in range(steps):
        where = draw.randrange(-1, len(house.limits))
        channels = fitting_channels(state, where)
        if channels and may_come(house, state, where):
            state = added(state, draw.choice(channels), where)
        calls = all_calls(state)
        if calls and draw.random() < 0.3:
            state = removed(state, *draw.choice(calls))
    return state


def after_coming(state, where):
    """The kinds of all states that a call can lead to."""
    return {tuple(sorted(added(state, channel, where))) for channel in fitting_channels(state, where)}


def after_going(state):
    return {tuple(sorted(removed(state, channel, where))) for channel, where in all_calls(state)}


def comings(house, state):
    """For each allowed call that comes, the kinds that it can lead to."""
    places = range(-1, len(house.limits))
    return [after_coming(state, where) for where in places if may_come(house, state, where)]


def safe_kinds(house):
    """The states from which calls can be given channels for ever: the meaning of point 16."""
    safe = set(all_kinds(house))
    calls = {state: comings(house, state) for state in safe}
    gone = {state: after_going(state) for state in safe}
    while True:
        lost = {
            state for state in safe
            if not gone[state] <= safe or not all(found & safe for found in calls[state])
        }
        if not lost:
            return safe
        safe -= lost


def most_kept(state, rooms):
    """The greatest number of kept calls, found by trying all choices."""
    best = 0
    choices = [(None,) + tuple(cell for cell in content if cell >= 0) for content in state]
    for choice in product(*choices):
        if all(choice.count(cell) <= room for cell, room in enumerate(rooms)):
            best = max(best, sum(cell is not None for cell in choice))
    return best


def moved(state):
    """The kinds of all states that one move of a local call leads to."""
    found = set()
    for source, cell in all_calls(state):
        if cell >= 0:
            for target in fitting_channels(state, cell):
                found.add(tuple(sorted(added(removed(state, source, cell), target, cell))))
    return found


def move_counts(states, ends):
    """For each of the states the fewest moves that lead to one of the ends, if any do; moves can be made back."""
    counts = {state: 0 for state in states if state in ends}
    row = list(counts)
    while row:
        row = [(after, counts[state] + 1) for state in row for after in moved(state) if after not in counts]
        counts.update(row)
        row = list(dict(row))
    return counts


def end_counts(states, ends):
    """For each of the states the fewest local calls without which it is one of the ends, if there are any."""
    counts = {}
    for state in sorted(states, key=lambda row: sum(len(content) for content in row)):
        calls = [(channel, cell) for channel, cell in all_calls(state) if cell >= 0]
        found = [counts.get(tuple(sorted(removed(state, *call)))) for call in calls]
        found = [0] if state in ends else [count + 1 for count in found if count is not None]
        if found:
            counts[state] = min(found)
    return counts
