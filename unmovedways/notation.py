"""Notation: the written forms of houses, states and records."""

from unmovedways.errors import InvalidHouse, InvalidText
from unmovedways.house import MOST_CELLS, MOST_CHANNELS, House
from unmovedways.need import lots
from unmovedways.states import FREE, WIDE, WIDE_CONTENT

NO_CHANNELS = "none"
PLACES = {"*": -1, "0": 0, "1": 1, "2": 2, "3": 3, "4": 4}


def house_text(house):
    """Returns the written form of a house."""
    return _values_text(house.limits, house.channels, house.wide_limit)


def _values_text(limits, channels, wide_limit):
    numbers = " ".join([str(limit) for limit in limits])
    return f"limits {numbers} channels {channels} wides {wide_limit}"


def state_text(state):
    """Returns the written form of a state."""
    if len(state) == 0:
        return NO_CHANNELS
    return " ".join([_content_text(content) for content in state])


def _content_text(content):
    if content == FREE:
        return "."
    return "".join([where_text(where) for where in content])


def where_text(where):
    """Returns the word for the place of a call."""
    return "*" if where == WIDE else str(where)


def record_text(record):
    """Returns the written form of a record."""
    kind = record[0]
    if kind == "come":
        return f"come {where_text(record[1])} {record[2]}"
    if kind == "go":
        return f"go {record[1]} {where_text(record[2])}"
    if kind == "change":
        return "change " + _values_text(record[1], record[2], record[3])
    return f"{kind} {record[1]}"


def parse_house(text):
    """Returns the house whose written form is the text."""
    house = _read_house(text.split(" "))
    if house is None:
        raise InvalidText(text)
    return house


def _read_house(words):
    if len(words) < 6 or words[0] != "limits" or words[-4] != "channels" or words[-2] != "wides":
        return None
    limits = [read_number(word) for word in words[1:-4]]
    try:
        # A word that is no number stands for -1, and no house has -1 anywhere.
        return House(limits, channels=read_number(words[-3]), wide_limit=read_number(words[-1]))
    except InvalidHouse:
        return None


def read_number(word):
    """Returns the number that is written as this word, or -1 if there is none."""
    if not word.isdigit() or (word[0] == "0" and word != "0"):
        return -1
    return int(word)


def parse_state(text):
    """Returns the state whose written form is the text."""
    if text == NO_CHANNELS:
        return []
    contents = _contents_by_word()
    words = text.split(" ")
    if len(words) > MOST_CHANNELS:
        raise InvalidText(text)
    for word in words:
        if word not in contents:
            raise InvalidText(text)
    return [contents[word] for word in words]


def _contents_by_word():
    contents = [FREE, WIDE_CONTENT, *lots(MOST_CELLS)]
    return {_content_text(content): content for content in contents}


def parse_record(text):
    """Returns the record whose written form is the text."""
    record = _read_record(text.split(" "))
    if record is None:
        raise InvalidText(text)
    return record


def _read_record(words):
    kind = words[0]
    if kind == "change":
        return _read_change(words[1:])
    if kind == "come" and len(words) == 3:
        return _read_come(words[1], words[2])
    if kind == "go" and len(words) == 3:
        return _read_go(words[1], words[2])
    if kind in ("close", "reopen") and len(words) == 2:
        return _read_closing(kind, words[1])
    return None


def _read_change(words):
    house = _read_house(words)
    if house is None:
        return None
    return ("change", house.limits, house.channels, house.wide_limit)


def _read_come(place, number):
    where = PLACES.get(place)
    channel = _read_channel(number)
    return None if where is None or channel is None else ("come", where, channel)


def _read_go(number, place):
    channel = _read_channel(number)
    where = PLACES.get(place)
    return None if where is None or channel is None else ("go", channel, where)


def _read_closing(kind, number):
    channel = _read_channel(number)
    return None if channel is None else (kind, channel)


def _read_channel(number):
    channel = read_number(number)
    return channel if 0 <= channel < MOST_CHANNELS else None
