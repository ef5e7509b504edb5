"""Nets: places that are joined by links, and the houses that their links form."""

from unmovedways.errors import InvalidNet, InvalidRoute, OverLimit, Unsafe
from unmovedways.house import MOST_CHANNELS, MOST_LIMIT, House
from unmovedways.planning import empty_need
from unmovedways.states import WIDE, Loads

MOST_LINKS = 24
MOST_PLACES = 20
FEWEST_BARE_LINKS = 2
MOST_BARE_LINKS = 5


class Net:
    """Links with their limits, a number of channels, and the places without a converter."""

    def __init__(self, links, *, channels=8, bare=()):
        self.links = tuple([(one, other, limit) for one, other, limit in links])
        self.channels = channels
        self.bare = tuple(sorted(bare))
        if not _keeps_bounds(self.links, channels) or not _may_be_bare(self.links, self.bare):
            raise InvalidNet()
        self.places = max([max(one, other) for one, other, _ in self.links]) + 1
        self.groups = _groups(self.links, self.bare)

    def house_of(self, group):
        """Returns the house of a group: one cell for each of its links."""
        return House([self.links[link][2] for link in self.groups[group]], channels=self.channels)

    def parts_of(self, route):
        """Returns the calls that a route is made of, one for each group that it meets."""
        self._check_route(route)
        parts = []
        for index, group in enumerate(self.groups):
            used = [link for link in group if link in route]
            if len(used) > 1:
                parts.append((index, WIDE))
            elif len(used) == 1:
                parts.append((index, group.index(used[0])))
        return parts

    def _check_route(self, route):
        if not _is_row_of_links(route, len(self.links)):
            raise InvalidRoute(-1)
        for place in self.bare:
            links = links_at(self, place)
            used = [link for link in links if link in route]
            if 1 < len(used) < len(links):
                raise InvalidRoute(place)


def _keeps_bounds(links, channels):
    if not 1 <= len(links) <= MOST_LINKS or not 0 <= channels <= MOST_CHANNELS:
        return False
    for one, other, limit in links:
        if one == other or not 1 <= limit <= MOST_LIMIT:
            return False
        if not 0 <= one < MOST_PLACES or not 0 <= other < MOST_PLACES:
            return False
    return True


def _may_be_bare(links, bare):
    for one, other, _ in links:
        if one in bare and other in bare:
            return False
    for place in bare:
        many = len(_links_joining(links, place))
        if bare.count(place) > 1 or not FEWEST_BARE_LINKS <= many <= MOST_BARE_LINKS:
            return False
    return True


def _groups(links, bare):
    """Returns the groups in the order of their first links."""
    groups = [_links_joining(links, place) for place in bare]
    for link, (one, other, _) in enumerate(links):
        if one not in bare and other not in bare:
            groups.append((link,))
    return tuple(sorted(groups))


def _links_joining(links, place):
    return tuple([link for link, (one, other, _) in enumerate(links) if place in (one, other)])


def _is_row_of_links(route, many):
    """Tells whether the route is an ascending list of different links, at least one."""
    before = -1
    for link in route:
        if not before < link < many:
            return False
        before = link
    return len(route) > 0


def links_at(net, place):
    """Returns the links that join a place, in ascending order."""
    return _links_joining(net.links, place)


def least_channels(net):
    """Returns the least number of channels with which the empty net is safe."""
    return max([empty_need(net.house_of(group).limits) for group in range(len(net.groups))])


def link_loads(net, routes):
    """Returns the load of each link if these routes stand."""
    return Loads([len([route for route in routes if link in route]) for link in range(len(net.links))])


def check_net(net):
    """Raises the error of a net whose empty states are not all safe."""
    least = least_channels(net)
    if least > net.channels:
        raise Unsafe(least)


def check_asked(net, counts, route):
    """Raises the error of a route that would bring a link above its limit."""
    for link in route:
        if counts[link] >= net.links[link][2]:
            raise OverLimit(link)
