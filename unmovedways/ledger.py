"""The ledger: admits bookings of routes and knows what the agents have answered."""

from unmovedways.errors import NoSuchBooking
from unmovedways.nets import check_asked, link_loads

ASKING = "asking"
UP = "up"
ENDING = "ending"
GONE = "gone"


class Booking:
    """What the ledger knows of one booking."""

    def __init__(self, route, parts):
        self.route = tuple(route)
        self.parts = parts
        self.phase = ASKING
        # By group: the channel that was given, and that the call was dropped.
        self.channels = {}
        self.dropped = {}


class Ledger:
    """The bookings of a net, with the loads that they make and the answers to their letters."""

    def __init__(self, net):
        self.net = net
        self._bookings = []

    @property
    def loads(self):
        return link_loads(self.net, [booking.route for booking in self._bookings if booking.phase != GONE])

    def ask(self, route):
        """Admits a route and returns the number of its booking."""
        parts = self.net.parts_of(route)
        check_asked(self.net, self.loads, route)
        self._bookings.append(Booking(route, parts))
        return len(self._bookings) - 1

    def end(self, number):
        """Ends a booking."""
        booking = self._booking(number)
        if booking.phase in (ENDING, GONE):
            raise NoSuchBooking(number)
        booking.phase = ENDING

    def hear(self, letter):
        """Takes an agent's answer."""
        booking = self._booking(letter[1])
        group = letter[2]
        if letter[0] == "given" and booking.phase == ASKING:
            booking.channels[group] = letter[3]
            if len(booking.channels) == len(booking.parts):
                booking.phase = UP
        elif letter[0] == "dropped" and booking.phase == ENDING:
            booking.dropped[group] = True
            if len(booking.dropped) == len(booking.parts):
                booking.phase = GONE

    def status(self, number):
        """Returns how far a booking has come."""
        return self._booking(number).phase

    def given(self, number):
        """Returns the channels that were given to a booking, by group."""
        return sorted(list(self._booking(number).channels.items()))

    def unanswered(self):
        """Returns the letters that wait for an answer, by number and then by group."""
        letters = []
        for number, booking in enumerate(self._bookings):
            letters.extend(_waiting_letters(number, booking))
        return letters

    def _booking(self, number):
        if not 0 <= number < len(self._bookings):
            raise NoSuchBooking(number)
        return self._bookings[number]


def _waiting_letters(number, booking):
    if booking.phase == ASKING:
        return [("take", number, group, where) for group, where in booking.parts if group not in booking.channels]
    if booking.phase == ENDING:
        return [("drop", number, group) for group, _ in booking.parts if group not in booking.dropped]
    return []
