"""Grants: the channels that may be given to a call."""

from unmovedways.errors import OverLimit
from unmovedways.events import allowed, fitting, with_call
from unmovedways.need import is_safe, need


def grants(house, state, where):
    """Returns the channels with which the state is safe afterwards, in ascending order."""
    check_coming(house, state, where)
    return safe_channels(house, state, where)


def steady_grants(house, state, where):
    """Returns the channels with which the need stays what it is, in ascending order."""
    check_coming(house, state, where)
    before = need(house, state)
    return [channel for channel in fitting(state, where) if need(house, with_call(state, channel, where)) == before]


def check_coming(house, state, where):
    """Raises the error of a call that is not allowed to come."""
    if not allowed(house, state, ("come", where)):
        raise OverLimit(where)


def safe_channels(house, state, where):
    """Returns the channels that keep the state safe, for a call that is allowed to come."""
    return [channel for channel in fitting(state, where) if is_safe(house, with_call(state, channel, where))]
