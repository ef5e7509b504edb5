"""What a rule can come to: all states that it reaches, or a play that it loses."""

from math import comb

from unmovedways.errors import InvalidState, OverLimit, TooLarge
from unmovedways.events import NO_CHANNEL, allowed, with_call, without_call
from unmovedways.need import is_safe
from unmovedways.states import WIDE, check_state, kinds

MOST_SIZE = 1000


def size_of(house):
    """Returns how many kinds of states with these cells and channels there are."""
    contents = 1 << house.cells
    return comb(house.channels + contents, contents)


def judge_rule(house, rule, state):
    """Returns "right" with all kinds that are reached, or "wrong" with a shortest play that shows it."""
    size = size_of(house)
    if size > MOST_SIZE:
        raise TooLarge(size)
    if not is_safe(house, state):
        return ("wrong", [])
    plays = {kinds(state): []}
    # Each state stands behind all that shorter plays lead to, so the first wrong play is a shortest one.
    states = [state]
    place = 0
    while place < len(states):
        present = states[place]
        before = plays[kinds(present)]
        for record, after in _steps(house, rule, present):
            if after is not None and kinds(after) in plays:
                continue
            play = [*before, record]
            if after is None or not is_safe(house, after):
                return ("wrong", play)
            plays[kinds(after)] = play
            states.append(after)
        place += 1
    return ("right", sorted(plays))


def _steps(house, rule, state):
    """Returns each record that the rule allows next with the state after it, or None after a refusal."""
    steps = []
    for where in range(WIDE, house.cells):
        if allowed(house, state, ("come", where)):
            channel = rule(state, where)
            after = None if channel == NO_CHANNEL else with_call(state, channel, where)
            steps.append((("come", where, channel), after))
    for channel, content in enumerate(state):
        for where in content:
            steps.append((("go", channel, where), without_call(state, channel, where)))
    return steps


def check_reached(house, rule, state, reached):
    """Tells whether the list of kinds shows that the rule is right from the state."""
    members = {member: True for member in reached}
    if kinds(state) not in members:
        return False
    for member in members:
        if not _stays_within(house, rule, member, members):
            return False
    return True


def _stays_within(house, rule, member, members):
    if not _is_valid(house, member) or not is_safe(house, member):
        return False
    for _, after in _steps(house, rule, member):
        if after is None or kinds(after) not in members:
            return False
    return True


def _is_valid(house, state):
    try:
        check_state(house, state)
    except (InvalidState, OverLimit):
        return False
    return True
