"""Converters: which places of a net can do without one."""

from unmovedways.nets import links_at
from unmovedways.planning import empty_need


def fit_places(net):
    """Returns the places with two links that could be bare as far as these two matter."""
    return _fit_places(net, net.channels)


def _fit_places(net, channels):
    places = []
    for place in range(net.places):
        limits = [net.links[link][2] for link in links_at(net, place)]
        if len(limits) == 2 and empty_need(limits) <= channels:
            places.append(place)
    return places


def best_chain(worths):
    """Returns the places of a chain that are worth most, and numbers that show that no others are worth more."""
    joins = []
    unpaid = 0
    for worth in worths:
        # Each join pays what the one before it leaves open of the place between them.
        unpaid = max(0, worth - unpaid)
        joins.append(unpaid)
    chosen = []
    for index in range(len(joins) - 1, -1, -1):
        if joins[index] > 0 and index + 1 not in chosen:
            chosen.append(index)
    # Behind the last place there is no join, so its own number pays.
    own = [0] * (len(joins) - 1) + joins[-1:]
    return (sorted(chosen), own, joins[:-1])


def best_ring(worths):
    """Returns the places of a ring that are worth most, and numbers for its chains without and with the first one."""
    row = list(worths)
    others, own, joins = best_chain(row[1:])
    inner, inner_own, inner_joins = best_chain(row[2:-1])
    chosen = [index + 1 for index in others]
    with_first = [0, *[index + 2 for index in inner]]
    if _worth(row, with_first) > _worth(row, chosen):
        chosen = with_first
    return (chosen, (own, joins), (inner_own, inner_joins))


def _worth(worths, places):
    return sum([worths[place] for place in places])


def best_bare(net, worths):
    """Returns the fit places that are worth most, no two of them joined by a link."""
    return _best_places(net, net.channels, worths)


def _best_places(net, channels, worths):
    neighbours = _neighbours(net, _fit_places(net, channels))
    chosen = []
    for row in _rows(neighbours):
        row_worths = [worths[place] for place in row]
        is_ring = len(row) > 2 and row[0] in neighbours[row[-1]]
        best = best_ring(row_worths) if is_ring else best_chain(row_worths)
        chosen.extend([row[index] for index in best[0]])
    return sorted(chosen)


def _neighbours(net, places):
    """Returns for each of the places the others of them that a link joins to it, each once."""
    neighbours = {place: [] for place in places}
    for one, other, _ in net.links:
        if one in neighbours and other in neighbours and one not in neighbours[other]:
            neighbours[one].append(other)
            neighbours[other].append(one)
    return neighbours


def _rows(neighbours):
    """Returns the chains and rings that places with at most two neighbours each form."""
    rows = []
    found = {}
    # A place with fewer neighbours is the end of a chain; those that are left after them lie on rings.
    for _, start in sorted([(len(neighbours[place]), place) for place in neighbours]):
        if start not in found:
            row = _row_from(neighbours, start)
            rows.append(row)
            for place in row:
                found[place] = True
    return rows


def _row_from(neighbours, start):
    row = [start]
    following = neighbours[start]
    while len(following) > 0:
        row.append(following[0])
        following = [place for place in neighbours[row[-1]] if place not in row]
    return row


def bare_counts(net, most):
    """Returns for each number of channels how many places can be bare, or -1 if some link needs more channels."""
    return [_most_bare(net, channels) for channels in range(most + 1)]


def _most_bare(net, channels):
    if channels < max([limit for _, _, limit in net.links]):
        return -1
    return len(_best_places(net, channels, [1] * net.places))
