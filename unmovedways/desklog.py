"""The log of a desk: a text from which the desk can be made again."""

from unmovedways.desk import Desk
from unmovedways.errors import BadLog, ChannelTaken, UnmovedError
from unmovedways.lines import read_lines, record_line
from unmovedways.notation import house_text, parse_house, parse_record, parse_state, record_text, state_text

HEAD = "desk "
MIDDLE = " state "


def desk_log(desk):
    """Returns the log of a desk: how it began, and its records."""
    house, state = desk.beginning()
    bodies = [HEAD + house_text(house) + MIDDLE + state_text(state)]
    bodies.extend([record_text(record) for record in desk])
    return "".join([record_line(line, body) for line, body in enumerate(bodies)])


def open_desk(text):
    """Returns the desk that the whole lines of a log tell."""
    bodies, _ = read_lines(text)
    if len(bodies) == 0:
        raise BadLog(0)
    desk = _beginning_desk(bodies[0])
    for line in range(1, len(bodies)):
        try:
            _do_again(desk, parse_record(bodies[line]))
        except UnmovedError:
            raise BadLog(line) from None
    return desk


def _beginning_desk(body):
    head, _, state = body.partition(MIDDLE)
    if not head.startswith(HEAD):
        raise BadLog(0)
    try:
        return Desk(parse_house(head[len(HEAD):]), parse_state(state))
    except UnmovedError:
        raise BadLog(0) from None


def _do_again(desk, record):
    """Makes the desk do what was recorded, or raises an error of the program if it could not have done it."""
    kind = record[0]
    if kind == "come":
        _come_again(desk, record[1], record[2])
    elif kind == "go":
        desk.go(record[1], record[2])
    elif kind == "close":
        desk.close(record[1])
    elif kind == "reopen":
        desk.reopen(record[1])
    else:
        desk.change(limits=record[1], channels=record[2], wide_limit=record[3])


def _come_again(desk, where, channel):
    # A written record may name a cell that the house does not have; no channel is granted there.
    channels = desk.grants(where) if where < desk.house.cells else []
    if channel not in channels:
        raise ChannelTaken(channel)
    desk.come(where, wish=channels.index(channel))
