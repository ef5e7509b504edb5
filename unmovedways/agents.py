"""Agents: each serves one group of links, by letters, and keeps a log."""

from unmovedways.errors import BadLog, OverLimit, Unsafe
from unmovedways.events import with_call, without_call
from unmovedways.grants import grants
from unmovedways.lines import read_lines, record_line
from unmovedways.need import need
from unmovedways.notation import PLACES, read_number, where_text
from unmovedways.states import empty_state


class Agent:
    """The state of one group, the calls of bookings in it, and the numbers of the bookings that have ended.

    A deed is what the agent writes a line of: ("take", number, where, channel) or ("drop", number).
    """

    def __init__(self, net, group, *, log=""):
        house = net.house_of(group)
        empty = empty_state(house)
        needed = need(house, empty)
        if needed > house.channels:
            raise Unsafe(needed)
        self.net = net
        self.group = group
        self._house = house
        self._state = empty
        # By number: the place and the channel of each call, and that a booking has ended.
        self._calls = {}
        self._ended = {}
        self._lines = []
        self._go_on_from(log)

    def _go_on_from(self, log):
        """Does what the whole lines of a log tell."""
        bodies, _ = read_lines(log)
        for line, body in enumerate(bodies):
            deed = _read_deed(body)
            if deed is None or not self._could_do(deed):
                raise BadLog(line)
            self._do(deed)

    def _could_do(self, deed):
        """Tells whether some letter would make the agent do this now."""
        if deed[0] == "take" and deed[2] >= self._house.cells:
            return False
        letter = (deed[0], deed[1], self.group, *deed[2:3])
        try:
            return self._deed_for(letter) == deed
        except OverLimit:
            return False

    @property
    def state(self):
        return list(self._state)

    @property
    def log(self):
        return "".join(self._lines)

    def calls(self):
        """Returns the number, the place and the channel of each call, in ascending order."""
        return sorted([(number, where, channel) for number, (where, channel) in self._calls.items()])

    def ended(self):
        """Returns the numbers of the bookings that have ended, in ascending order."""
        return sorted(list(self._ended))

    def hear(self, letter):
        """Takes a letter of the ledger and returns the answer."""
        deed = self._deed_for(letter)
        if deed is not None:
            self._do(deed)
        number = letter[1]
        if number in self._ended:
            return ("dropped", number, self.group)
        return ("given", number, self.group, self._calls[number][1])

    def hear_cut(self, letter, keep):
        """Takes a letter of the ledger, but breaks off once so many characters are written."""
        deed = self._deed_for(letter)
        # Without a whole line the log tells what the agent was before the letter, so nothing changes.
        if deed is not None and keep >= len(self._line_of(deed)):
            self._do(deed)

    def _deed_for(self, letter):
        """Returns the deed that a letter leads to, or None if it leads to none."""
        kind = letter[0]
        number = letter[1]
        if number in self._ended or (kind == "take" and number in self._calls):
            return None
        if kind == "drop":
            return ("drop", number)
        where = letter[3]
        return ("take", number, where, grants(self._house, self._state, where)[0])

    def _do(self, deed):
        self._lines.append(self._line_of(deed))
        number = deed[1]
        if deed[0] == "take":
            where, channel = deed[2:]
            self._state = with_call(self._state, channel, where)
            self._calls[number] = (where, channel)
            return
        self._ended[number] = True
        if number in self._calls:
            where, channel = self._calls.pop(number)
            self._state = without_call(self._state, channel, where)

    def _line_of(self, deed):
        words = [deed[0], str(deed[1])]
        if deed[0] == "take":
            words.extend([where_text(deed[2]), str(deed[3])])
        return record_line(len(self._lines), " ".join(words))


def _read_deed(body):
    """Returns the deed whose line has this body, or None if there is none."""
    words = body.split(" ")
    number = read_number(words[1]) if len(words) > 1 else -1
    if number < 0:
        return None
    if words[0] == "drop" and len(words) == 2:
        return ("drop", number)
    if words[0] == "take" and len(words) == 4 and words[2] in PLACES:
        return ("take", number, PLACES[words[2]], read_number(words[3]))
    return None
