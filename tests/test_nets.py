import random
import unittest
from itertools import combinations

from unmovedways.errors import InvalidNet, InvalidRoute
from unmovedways.house import House
from unmovedways.need import need
from unmovedways.nets import Net, least_channels
from unmovedways.states import empty_state

STAR = [(0, 1, 2), (1, 2, 2), (1, 3, 2)]


def row_of(many):
    """A chain of so many links."""
    return [(place % 20, (place + 1) % 20, 1) for place in range(many)]


def star_of(many):
    """So many links that join place 0 to others."""
    return [(0, place + 1, place + 1) for place in range(many)]


def drawn_net(draw, channels=12, bare=True):
    """A net of drawn links, with as many bare places as a drawn order allows."""
    places = draw.randint(2, 8)
    links = []
    for _ in range(draw.randint(1, 12)):
        one, other = draw.sample(range(places), 2)
        links.append((one, other, draw.randint(1, 4)))
    chosen = []
    for place in draw.sample(range(places), places) if bare else []:
        try:
            Net(links, bare=[*chosen, place])
        except InvalidNet:
            continue
        chosen.append(place)
    return Net(links, channels=channels, bare=chosen)


class MakingTest(unittest.TestCase):
    def assert_no_net(self, links, **keywords):
        with self.subTest(links=links, keywords=keywords):
            with self.assertRaises(InvalidNet) as found:
                Net(links, **keywords)
            self.assertEqual(vars(found.exception), {})

    def test_example_of_the_interface(self):
        net = Net(STAR, channels=3, bare=[1])
        parts = [net.parts_of([0, 1, 2]), net.parts_of([1])]
        self.assertEqual([net.groups, *parts, least_channels(net)], [((0, 1, 2),), [(0, -1)], [(0, 1)], 3])

    def test_attributes(self):
        net = Net([[3, 7, 2], (7, 0, 20)])
        self.assertEqual([net.links, net.channels, net.bare, net.places], [((3, 7, 2), (7, 0, 20)), 8, (), 8])
        self.assertEqual([type(net.links), type(net.bare), type(net.groups)], [tuple] * 3)
        self.assertEqual([type(link) for link in net.links], [tuple] * 2)
        self.assertEqual([type(group) for group in net.groups], [tuple] * 2)
        self.assertEqual(Net(((1, 0, 1),), channels=0, bare=()).places, 2)

    def test_number_of_links(self):
        self.assert_no_net([])
        self.assert_no_net(())
        for many in (1, 2, 23, 24):
            self.assertEqual(len(Net(row_of(many)).links), many)
        for many in (25, 26, 60):
            self.assert_no_net(row_of(many))

    def test_ends(self):
        self.assertEqual(Net([(0, 19, 1)]).places, 20)
        self.assertEqual(Net([(19, 0, 1)]).places, 20)
        for one, other in ((0, 0), (19, 19), (-1, 0), (0, -1), (20, 0), (0, 20), (-1, -2), (1, 1)):
            self.assert_no_net([(one, other, 1)])
            self.assert_no_net([(0, 1, 1), (one, other, 1)])
        self.assertEqual(Net([(0, 1, 1), (1, 0, 1), (0, 1, 3)]).groups, ((0,), (1,), (2,)))

    def test_limits(self):
        for limit in (1, 2, 19, 20):
            self.assertEqual(Net([(0, 1, limit)]).links[0][2], limit)
        for limit in (0, -1, 21, 100):
            self.assert_no_net([(0, 1, limit)])
            self.assert_no_net([(0, 1, 1), (1, 2, limit)])

    def test_channels(self):
        for channels in (0, 1, 23, 24):
            self.assertEqual(Net(STAR, channels=channels).channels, channels)
        for channels in (-1, 25, 100):
            self.assert_no_net(STAR, channels=channels)

    def test_number_of_links_at_a_bare_place(self):
        for many in (2, 3, 4, 5):
            net = Net(star_of(many), bare=[0])
            self.assertEqual([net.bare, net.groups], [(0,), (tuple(range(many)),)])
        for many in (1, 6, 7):
            self.assert_no_net(star_of(many), bare=[0])
        for place in (4, 19, 20, -1):
            self.assert_no_net(star_of(3), bare=[place])
        # The place 2 is not joined, and the other one is.
        self.assert_no_net([(0, 1, 1), (1, 3, 1)], bare=[1, 2])

    def test_bare_places_twice_and_beside_each_other(self):
        chain = row_of(5)
        self.assert_no_net(chain, bare=[1, 1])
        self.assert_no_net(chain, bare=[1, 3, 1])
        self.assert_no_net(chain, bare=[1, 2])
        self.assert_no_net(chain, bare=[4, 2, 3])
        self.assert_no_net([(0, 1, 1), (1, 0, 1)], bare=[0, 1])
        self.assertEqual(Net(chain, bare=[3, 1]).bare, (1, 3))
        self.assertEqual(Net([(0, 1, 1), (1, 0, 1)], bare=[1]).groups, ((0, 1),))

    def test_several_wrong_things(self):
        self.assert_no_net([(0, 0, 0)], channels=-1, bare=[7, 7])
        self.assert_no_net([], channels=99, bare=[0])

    def test_what_was_passed_is_changed_afterwards(self):
        links, bare = [[0, 1, 2], [1, 2, 2], [2, 3, 1]], [1]
        net = Net(links, bare=bare)
        links[0][2] = 9
        links.pop()
        bare.append(2)
        self.assertEqual([net.links, net.bare], [((0, 1, 2), (1, 2, 2), (2, 3, 1)), (1,)])
        self.assertEqual([bare, links], [[1, 2], [[0, 1, 9], [1, 2, 2]]])


class GroupsTest(unittest.TestCase):
    def test_order_of_the_groups(self):
        links = [(0, 1, 1), (5, 6, 2), (2, 3, 3), (1, 4, 4), (3, 0, 5), (5, 3, 6)]
        for bare in ([3, 1], [1, 3], (3, 1)):
            net = Net(links, bare=bare)
            self.assertEqual([net.bare, net.groups], [(1, 3), ((0, 3), (1,), (2, 4, 5))])
        self.assertEqual(Net(links, bare=[0, 5]).groups, ((0, 4), (1, 5), (2,), (3,)))
        self.assertEqual(Net(links).groups, ((0,), (1,), (2,), (3,), (4,), (5,)))

    def test_house_of(self):
        net = Net([(0, 1, 1), (5, 6, 2), (2, 3, 3), (1, 4, 4), (3, 0, 5), (5, 3, 6)], channels=9, bare=[3])
        houses = [net.house_of(group) for group in range(len(net.groups))]
        self.assertEqual({type(house) for house in houses}, {House})
        self.assertEqual([house.limits for house in houses], [(1,), (2,), (3, 5, 6), (4,)])
        self.assertEqual({(house.channels, house.wide_limit) for house in houses}, {(9, 20)})

    def test_drawn_nets(self):
        draw = random.Random(50)
        for _ in range(200):
            net = drawn_net(draw)
            self.assertEqual(sorted(link for group in net.groups for link in group), list(range(len(net.links))))
            self.assertEqual(net.groups, tuple(sorted(net.groups)))
            wanted = {
                tuple(link for link, ends in enumerate(net.links) if place in ends[:2]) for place in net.bare
            }
            self.assertEqual({group for group in net.groups if len(group) > 1}, wanted)
            self.assertEqual(net.places, max(max(link[:2]) for link in net.links) + 1)
            self.assertEqual(
                [net.house_of(group).limits for group in range(len(net.groups))],
                [tuple(net.links[link][2] for link in group) for group in net.groups],
            )


class PartsTest(unittest.TestCase):
    def assert_no_route(self, net, route, place):
        for given in (list(route), tuple(route)):
            with self.subTest(route=given):
                with self.assertRaises(InvalidRoute) as found:
                    net.parts_of(given)
                self.assertEqual(vars(found.exception), {"place": place})

    def test_parts(self):
        net = Net([(0, 1, 1), (5, 6, 2), (2, 3, 3), (1, 4, 4), (3, 0, 5), (5, 3, 6)], bare=[1, 3])
        for route, parts in (
            ([0], [(0, 0)]), ([3], [(0, 1)]), ([0, 3], [(0, -1)]), ([1], [(1, 0)]), ([2], [(2, 0)]), ([4], [(2, 1)]),
            ([5], [(2, 2)]), ([2, 4, 5], [(2, -1)]), ([0, 5], [(0, 0), (2, 2)]), ([1, 3, 4], [(0, 1), (1, 0), (2, 1)]),
            ([0, 1, 2, 3, 4, 5], [(0, -1), (1, 0), (2, -1)]),
        ):
            for given in (route, tuple(route)):
                found = net.parts_of(given)
                self.assertIs(type(found), list)
                self.assertEqual(found, parts)
                self.assertEqual({type(part) for part in found}, {tuple})
        self.assertIsNot(net.parts_of([0]), net.parts_of([0]))

    def test_no_rows_of_links(self):
        net = Net(STAR, bare=[1])
        for route in (
            [], [-1], [3], [4], [-1, 0], [0, 3], [1, 0], [0, 0], [1, 1], [0, 1, 1], [0, 2, 1], [2, 1, 0], [0, 1, 2, 3],
            [0, 1, 2, 2], [0, -1],
        ):
            self.assert_no_route(net, route, -1)

    def test_some_links_of_a_bare_place(self):
        net = Net(STAR, bare=[1])
        for route in ([0, 1], [0, 2], [1, 2]):
            self.assert_no_route(net, route, 1)
            self.assertEqual(len(Net(STAR).parts_of(route)), 2)
        links = [(9, 1, 1), (9, 2, 1), (9, 3, 1), (0, 1, 1), (0, 2, 1), (0, 3, 1), (5, 1, 1), (5, 2, 1)]
        net = Net(links, bare=[9, 5, 0])
        self.assert_no_route(net, [0, 1], 9)
        self.assert_no_route(net, [3, 5], 0)
        self.assert_no_route(net, [0, 1, 3, 5], 0)
        self.assert_no_route(net, [0, 1, 3, 4, 5, 6, 7], 9)
        self.assertEqual(net.parts_of([0, 3, 6, 7]), [(0, 0), (1, 0), (2, -1)])

    def test_all_rows_of_drawn_nets(self):
        draw = random.Random(51)
        for _ in range(30):
            net = drawn_net(draw)
            for size in range(1, 4):
                for route in combinations(range(len(net.links)), size):
                    self.assert_parts(net, list(route))

    def assert_parts(self, net, route):
        parts, wrong = [], []
        for index, group in enumerate(net.groups):
            used = [link for link in group if link in route]
            if 1 < len(used) < len(group):
                wrong.append([place for place in net.bare if place in net.links[group[0]][:2]][0])
            elif used:
                parts.append((index, -1 if len(used) > 1 else group.index(used[0])))
        if wrong:
            self.assert_no_route(net, route, min(wrong))
        else:
            self.assertEqual(net.parts_of(route), parts)


class LeastChannelsTest(unittest.TestCase):
    def test_needs_of_the_empty_houses(self):
        draw = random.Random(52)
        for _ in range(150):
            net = drawn_net(draw)
            houses = [net.house_of(group) for group in range(len(net.groups))]
            wanted = max(need(house, empty_state(house)) for house in houses)
            for channels in (0, wanted, 24):
                same = Net(net.links, channels=channels, bare=net.bare)
                self.assertEqual(least_channels(same), wanted)

    def test_examples(self):
        self.assertEqual(least_channels(Net([(0, 1, 20)], channels=0)), 20)
        self.assertEqual(least_channels(Net([(0, 1, 20), (1, 2, 20)], channels=0)), 20)
        self.assertEqual(least_channels(Net([(0, 1, 20), (1, 2, 20)], channels=24, bare=[1])), 30)
        self.assertEqual(least_channels(Net(star_of(5), bare=[0])), 6)


if __name__ == "__main__":
    unittest.main()
