"""Net desks: a net at work, with bookings of routes."""

from unmovedways.errors import BlockedBy, InvalidNet, NoSuchBooking, Unsafe
from unmovedways.events import with_call, without_call
from unmovedways.grants import safe_channels
from unmovedways.need import need
from unmovedways.nets import Net, check_asked, check_net, link_loads, links_at
from unmovedways.states import WIDE, empty_state


class NetDesk:
    """A net with its bookings and a state for each group of links; these states are always safe."""

    def __init__(self, net):
        check_net(net)
        self.net = net
        # A booking is kept as the channels of its links, by link in ascending order.
        self._bookings = {}
        self._next = 0
        self._houses = _houses_of(net)
        self._states = _states_of(net, [])

    def __iter__(self):
        return iter(self._bookings)

    def __len__(self):
        return len(self._bookings)

    @property
    def loads(self):
        return link_loads(self.net, list(self._bookings.values()))

    @property
    def greatest_need(self):
        return max([need(house, state) for house, state in zip(self._houses, self._states)])

    def book(self, route, *, wish=0):
        """Gives each call of a route one of its grants, and returns the number of the booking."""
        parts = self.net.parts_of(route)
        check_asked(self.net, self.loads, route)
        booking = {link: None for link in route}
        for group, where in parts:
            channels = safe_channels(self._houses[group], self._states[group], where)
            channel = channels[wish % len(channels)]
            self._states[group] = with_call(self._states[group], channel, where)
            for link in self.net.groups[group]:
                if link in booking:
                    booking[link] = channel
        number = self._next
        self._bookings[number] = booking
        self._next = number + 1
        return number

    def release(self, number):
        """Removes a booking with all its calls."""
        booking = self._booking(number)
        for group, where in self.net.parts_of(list(booking)):
            channel = _channel_in(self.net, booking, group, where)
            self._states[group] = without_call(self._states[group], channel, where)
        del self._bookings[number]

    def set_bare(self, place):
        """Takes the converter of a place away."""
        net = Net(self.net.links, channels=self.net.channels, bare=[*self.net.bare, place])
        links = links_at(net, place)
        for number in self._bookings:
            if _needs_converter(self._bookings[number], links):
                raise BlockedBy(number)
        states = _states_of(net, list(self._bookings.values()))
        group = net.groups.index(links)
        needed = need(net.house_of(group), states[group])
        if needed > net.channels:
            raise Unsafe(needed)
        self._change_net(net, states)

    def set_converter(self, place):
        """Gives a bare place its converter back."""
        if place not in self.net.bare:
            raise InvalidNet()
        bare = [other for other in self.net.bare if other != place]
        net = Net(self.net.links, channels=self.net.channels, bare=bare)
        self._change_net(net, _states_of(net, list(self._bookings.values())))

    def _change_net(self, net, states):
        self.net = net
        self._houses = _houses_of(net)
        self._states = states

    def route_of(self, number):
        """Returns the route of a booking."""
        return tuple(self._booking(number))

    def channels_of(self, number):
        """Returns the channel that a booking has in each group that it meets."""
        booking = self._booking(number)
        parts = self.net.parts_of(list(booking))
        return [(group, _channel_in(self.net, booking, group, where)) for group, where in parts]

    def group_state(self, group):
        """Returns the state of a group."""
        return list(self._states[group])

    def _booking(self, number):
        if number not in self._bookings:
            raise NoSuchBooking(number)
        return self._bookings[number]


def _houses_of(net):
    return [net.house_of(group) for group in range(len(net.groups))]


def _states_of(net, bookings):
    """Returns the state that the bookings make in each group."""
    states = [empty_state(house) for house in _houses_of(net)]
    for booking in bookings:
        for group, where in net.parts_of(list(booking)):
            channel = _channel_in(net, booking, group, where)
            states[group] = with_call(states[group], channel, where)
    return states


def _channel_in(net, booking, group, where):
    """Returns the channel of a booking's call in a group."""
    # A wide call has the same channel on all links of the group, so the first one tells it.
    return booking[net.groups[group][0 if where == WIDE else where]]


def _needs_converter(booking, links):
    """Tells whether a booking cannot be one call on these links."""
    channels = [booking[link] for link in links if link in booking]
    if len(channels) < 2:
        return False
    return len(channels) < len(links) or min(channels) != max(channels)
