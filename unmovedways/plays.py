"""Plays: an adversary against a desk that takes no care, and the judging of records."""

from unmovedways.adversary import Adversary
from unmovedways.events import NO_CHANNEL, allowed, apply_record, fitting


def duel(house, state, wishes):
    """Returns the records of an adversary's play against a desk that follows the wishes."""
    adversary = Adversary(house, state)
    records = []
    used = 0
    while True:
        record = adversary.next_event(state)
        if record[0] == "come":
            wish = wishes[used] if used < len(wishes) else 0
            record = (*record, _wished(fitting(state, record[1]), wish))
            used += 1
        records.append(record)
        if _is_refusal(record):
            return records
        state = apply_record(house, state, record)


def _wished(channels, wish):
    return NO_CHANNEL if len(channels) == 0 else channels[wish % len(channels)]


def _is_refusal(record):
    return record[0] == "come" and record[2] == NO_CHANNEL


def check_play(house, state, records):
    """Returns the index of the first wrong record of a play, or -1 if none is wrong."""
    refused = False
    for index, record in enumerate(records):
        if refused or not _is_right(house, state, record):
            return index
        refused = _is_refusal(record)
        if not refused:
            state = apply_record(house, state, record)
    return -1


def _is_right(house, state, record):
    if not allowed(house, state, record):
        return False
    if record[0] == "go":
        return True
    channels = fitting(state, record[1])
    return len(channels) == 0 if record[2] == NO_CHANNEL else record[2] in channels
