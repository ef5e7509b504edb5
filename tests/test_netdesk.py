import random
import unittest

from tests.deeds import DeedTest
from tests.test_nets import drawn_net
from unmovedways.errors import BlockedBy, InvalidNet, InvalidRoute, NoSuchBooking, OverLimit, Unsafe
from unmovedways.grants import grants
from unmovedways.need import is_safe, need
from unmovedways.netdesk import NetDesk
from unmovedways.nets import Net, least_channels
from unmovedways.notation import parse_state
from unmovedways.states import Loads, check_state

# A bare place 1 with three links, and a chain from place 3 on.
LINKS = [(0, 1, 2), (1, 2, 2), (1, 3, 2), (3, 4, 1), (4, 5, 3)]


def seen(desk):
    """All that can be read of a net desk."""
    groups = range(len(desk.net.groups))
    bookings = [(number, desk.route_of(number), list(desk.channels_of(number))) for number in desk]
    states = [list(desk.group_state(group)) for group in groups]
    return [vars(desk.net), bookings, states, len(desk), list(desk.loads), desk.greatest_need]


def states_told(net, bookings):
    """The states of point 53 and 54, from the channels that bookings have on their links."""
    states = []
    for group in net.groups:
        contents = [set() for _ in range(net.channels)]
        for row in bookings.values():
            used = [link for link in group if link in row]
            for link in used:
                contents[row[link]].add(-1 if len(group) > 1 and len(used) == len(group) else group.index(link))
        states.append([tuple(sorted(content)) for content in contents])
    return states


class NetDeskTest(DeedTest):
    seen = staticmethod(seen)


class MakingTest(NetDeskTest):
    def test_empty_desk(self):
        net = Net(LINKS, channels=4, bare=[1])
        desk = NetDesk(net)
        self.assertEqual(vars(desk.net), vars(net))
        self.assertEqual([list(desk), len(desk), desk.greatest_need], [[], 0, 3])
        self.assertIs(type(desk.loads), Loads)
        self.assertEqual(desk.loads.counts, (0, 0, 0, 0, 0))
        self.assertEqual([desk.group_state(group) for group in range(3)], [[()] * 4] * 3)

    def test_unsafe_at_the_border(self):
        for links, bare, least in (
            ([(0, 1, 1)], [], 1), ([(0, 1, 20)], [], 20), (LINKS, [1], 3), (LINKS, [4], 3), (LINKS, [], 3),
            ([(0, 1, 3), (1, 2, 3)], [1], 4), ([(0, 1, 3), (1, 2, 3)], [], 3), ([(0, 1, 6), (1, 2, 6)], [1], 9),
        ):
            for channels in range(24):
                net = Net(links, channels=channels, bare=bare)
                if channels >= least:
                    self.assertEqual(NetDesk(net).greatest_need, least)
                    continue
                with self.assertRaises(Unsafe) as found:
                    NetDesk(net)
                self.assertEqual(vars(found.exception), {"need": least})


class BookTest(NetDeskTest):
    def test_numbers_routes_and_channels(self):
        desk = NetDesk(Net(LINKS, channels=4, bare=[1]))
        self.assertEqual(desk.book([0, 1, 2]), 0)
        self.assertEqual(desk.book((0, 3, 4), wish=1), 1)
        self.assertEqual([desk.route_of(0), desk.route_of(1)], [(0, 1, 2), (0, 3, 4)])
        self.assertEqual([desk.channels_of(0), desk.channels_of(1)], [[(0, 0)], [(0, 2), (1, 1), (2, 1)]])
        self.assertEqual(desk.group_state(0), parse_state("* . 0 ."))
        self.assertEqual([desk.group_state(1), desk.group_state(2)], [parse_state(". 0 . .")] * 2)
        self.assertEqual([list(desk), len(desk), desk.loads.counts], [[0, 1], 2, (2, 1, 1, 1, 1)])
        self.assertEqual([type(desk.route_of(1)), type(desk.channels_of(1)[0])], [tuple, tuple])

    def test_wishes(self):
        draw = random.Random(53)
        for _ in range(30):
            desk = self.busy_desk(draw)
            for link in range(len(desk.net.links)):
                if desk.loads[link] < desk.net.links[link][2]:
                    self.assert_wishes(desk, [link])

    def busy_desk(self, draw):
        net = drawn_net(draw)
        desk = NetDesk(Net(net.links, channels=max(6, least_channels(net)), bare=net.bare))
        for _ in range(8):
            self.try_to_book(desk, [draw.randrange(len(net.links))], draw.randrange(9))
        return desk

    def try_to_book(self, desk, route, wish):
        try:
            return desk.book(route, wish=wish)
        except OverLimit:
            return None

    def assert_wishes(self, desk, route):
        (group, where), = desk.net.parts_of(route)
        channels = grants(desk.net.house_of(group), desk.group_state(group), where)
        for wish in (0, 1, len(channels) - 1, len(channels), len(channels) + 1, 10 ** 30):
            number = desk.book(route, wish=wish)
            self.assertEqual(desk.channels_of(number), [(group, channels[wish % len(channels)])])
            desk.release(number)
        number = desk.book(route)
        self.assertEqual(desk.channels_of(number), [(group, channels[0])])
        desk.release(number)

    def test_the_same_wish_in_each_group(self):
        desk = NetDesk(Net([(0, 1, 2), (1, 2, 2), (2, 3, 2)], channels=3, bare=[1]))
        desk.book([2])
        desk.book([0, 1], wish=2)
        # Two channels are left in the group of place 1 and two on the last link.
        number = desk.book([0, 1, 2], wish=5)
        self.assertEqual(desk.channels_of(number), [(0, 1), (1, 2)])

    def test_route_that_is_changed_afterwards(self):
        desk = NetDesk(Net(LINKS, channels=4, bare=[1]))
        route = [0, 3]
        desk.book(route)
        route[0] = 4
        route.append(9)
        self.assertEqual([desk.route_of(0), desk.loads.counts], [(0, 3), (1, 0, 0, 1, 0)])

    def test_over_limit(self):
        desk = NetDesk(Net(LINKS, channels=4, bare=[1]))
        desk.book([3])
        desk.book([0, 1, 2])
        desk.book([0])
        self.assert_error(desk, OverLimit, {"where": 3}, "book", [3])
        self.assert_error(desk, OverLimit, {"where": 3}, "book", [2, 3, 4], wish=7)
        self.assert_error(desk, OverLimit, {"where": 0}, "book", [0, 1, 2, 3])
        self.assert_error(desk, OverLimit, {"where": 0}, "book", [0])
        self.assertEqual(desk.book([1]), 3)
        self.assert_error(desk, OverLimit, {"where": 1}, "book", (1, 3))

    def test_invalid_routes_come_first(self):
        desk = NetDesk(Net(LINKS, channels=4, bare=[1]))
        desk.book([3])
        for route, place in (
            ([], -1), ([-1], -1), ([5], -1), ([3, 3], -1), ([3, 2], -1), ([3, 5], -1), ([0, 2], 1), ([0, 1, 3], 1),
        ):
            self.assert_error(desk, InvalidRoute, {"place": place}, "book", route)

    def test_every_route_within_the_limits_is_booked(self):
        draw = random.Random(54)
        for _ in range(40):
            net = drawn_net(draw)
            desk = NetDesk(Net(net.links, channels=least_channels(net), bare=net.bare))
            for _ in range(40):
                route = sorted(draw.sample(range(len(net.links)), draw.randint(1, len(net.links))))
                parts = [link for group in net.groups for link in group if link in route]
                whole = [group for group in net.groups if 1 < len(set(group) & set(route)) < len(group)]
                full = [link for link in route if desk.loads[link] == net.links[link][2]]
                if not whole and not full:
                    number = desk.book(route, wish=draw.randrange(30))
                    self.assertEqual(desk.route_of(number), tuple(sorted(parts)))
                elif len(desk) > 0:
                    desk.release(draw.choice(list(desk)))


class ReleaseTest(NetDeskTest):
    def test_numbers_are_not_used_again(self):
        desk = NetDesk(Net(LINKS, channels=4, bare=[1]))
        self.assertEqual([desk.book([4]) for _ in range(3)], [0, 1, 2])
        self.assertIsNone(desk.release(1))
        self.assertEqual([list(desk), len(desk), desk.loads.counts], [[0, 2], 2, (0, 0, 0, 0, 2)])
        self.assertEqual(desk.book([0]), 3)
        desk.release(3)
        self.assertEqual(desk.book([0, 1, 2]), 4)
        self.assertEqual(list(desk), [0, 2, 4])
        for number in (0, 2, 4):
            desk.release(number)
        self.assertEqual([list(desk), len(desk), desk.book([3])], [[], 0, 5])

    def test_a_refused_route_uses_no_number(self):
        desk = NetDesk(Net(LINKS, channels=4, bare=[1]))
        desk.book([3])
        self.assert_error(desk, OverLimit, {"where": 3}, "book", [3])
        self.assert_error(desk, InvalidRoute, {"place": -1}, "book", [])
        self.assertEqual(desk.book([4]), 1)

    def test_no_such_booking(self):
        desk = NetDesk(Net(LINKS, channels=4, bare=[1]))
        for _ in range(3):
            desk.book([4])
        desk.release(1)
        for number in (1, 3, 4, -1, -3, 10 ** 9):
            for deed in ("release", "route_of", "channels_of"):
                self.assert_error(desk, NoSuchBooking, {"number": number}, deed, number)
        empty = NetDesk(Net(LINKS, channels=4))
        self.assert_error(empty, NoSuchBooking, {"number": 0}, "release", 0)

    def test_calls_go_with_the_booking(self):
        desk = NetDesk(Net(LINKS, channels=4, bare=[1]))
        before = seen(desk)
        for route in ([0, 1, 2], [1], [1, 3, 4], [0, 1, 2, 3, 4]):
            number = desk.book(route, wish=3)
            self.assertNotEqual(seen(desk), before)
            desk.release(number)
            self.assertEqual(seen(desk), before)


class CopiesTest(NetDeskTest):
    def test_lists_that_were_returned_are_changed(self):
        desk = NetDesk(Net(LINKS, channels=4, bare=[1]))
        desk.book([0, 3])
        before = seen(desk)
        desk.group_state(0)[0] = (9,)
        desk.group_state(1).clear()
        desk.channels_of(0).append((7, 7))
        list(desk).append(5)
        self.assertEqual(seen(desk), before)
        loads = desk.loads
        desk.book([0])
        self.assertEqual(loads.counts, (1, 0, 0, 1, 0))

    def test_two_desks_of_one_net(self):
        net = Net(LINKS, channels=4)
        told = dict(vars(net))
        one, other = NetDesk(net), NetDesk(net)
        before = seen(other)
        one.book([0, 3])
        one.set_bare(1)
        one.release(0)
        one.book([0, 1, 2])
        self.assertEqual(seen(other), before)
        self.assertEqual(vars(net), told)
        self.assertEqual([net.bare, one.net.bare], [(), (1,)])
        other.set_bare(4)
        self.assertEqual([one.net.bare, other.net.bare], [(1,), (4,)])


class ConverterTest(NetDeskTest):
    def test_invalid_nets(self):
        desk = NetDesk(Net([*LINKS, (7, 8, 1), (9, 10, 1), (11, 9, 1)], channels=9, bare=[1]))
        # Bare already, one link, beside a bare place, no link, no place.
        for place in (1, 0, 5, 7, 2, 3, 6, 12, 19, 20, -1):
            self.assert_error(desk, InvalidNet, {}, "set_bare", place)
        six = NetDesk(Net([(0, place, 1) for place in range(1, 7)], channels=9))
        self.assert_error(six, InvalidNet, {}, "set_bare", 0)
        for place in (0, 3, 4, 9, 12, 20, -1):
            self.assert_error(desk, InvalidNet, {}, "set_converter", place)
        self.assertIsNone(desk.set_bare(4))
        self.assertIsNone(desk.set_bare(9))
        self.assertEqual([desk.net.bare, desk.net.groups], [(1, 4, 9), ((0, 1, 2), (3, 4), (5,), (6, 7))])

    def test_without_bookings(self):
        net = Net(LINKS, channels=4)
        desk = NetDesk(net)
        before = seen(desk)
        self.assertIsNone(desk.set_bare(1))
        self.assertEqual(seen(desk), seen(NetDesk(Net(LINKS, channels=4, bare=[1]))))
        self.assertIsNone(desk.set_converter(1))
        self.assertEqual(seen(desk), before)

    def test_unsafe(self):
        links = [(0, 1, 3), (1, 2, 3)]
        poor = NetDesk(Net(links, channels=3))
        self.assert_error(poor, Unsafe, {"need": 4}, "set_bare", 1)
        desk = NetDesk(Net(links, channels=4))
        for route, wish in (([0], 0), ([0], 0), ([1], 2), ([1], 2)):
            desk.book(route, wish=wish)
        self.assertEqual([desk.channels_of(number) for number in desk], [[(0, 0)], [(0, 1)], [(1, 2)], [(1, 3)]])
        # The state would be 0 0 1 1, whose need is 5.
        self.assert_error(desk, Unsafe, {"need": 5}, "set_bare", 1)
        desk.release(3)
        self.assertIsNone(desk.set_bare(1))
        self.assertEqual([desk.group_state(0), desk.greatest_need], [parse_state("0 0 1 ."), 4])

    def test_blocked(self):
        links = [(0, 1, 3), (1, 2, 3), (1, 3, 3), (3, 4, 2)]
        desk = NetDesk(Net(links, channels=9))
        for route in ([3], [0], [0, 1, 2, 3], [1, 2], [0, 1, 2]):
            desk.book(route)
        self.assertEqual(desk.channels_of(2), [(0, 1), (1, 0), (2, 0), (3, 1)])
        self.assertEqual(desk.channels_of(4), [(0, 2), (1, 2), (2, 2)])
        # Booking 2 has all links of the place on unlike channels, booking 3 has two of three.
        self.assert_error(desk, BlockedBy, {"number": 2}, "set_bare", 1)
        desk.release(2)
        self.assert_error(desk, BlockedBy, {"number": 3}, "set_bare", 1)
        desk.release(3)
        self.assertIsNone(desk.set_bare(1))
        self.assertEqual(desk.group_state(0), parse_state("0 . * . . . . . ."))
        self.assertEqual(desk.channels_of(4), [(0, 2)])

    def test_order_of_errors(self):
        desk = NetDesk(Net([(0, 1, 3), (1, 2, 3), (2, 3, 1)], channels=3, bare=[2]))
        desk.book([0])
        desk.book([0, 1])
        self.assertEqual(desk.channels_of(1), [(0, 1), (1, 0)])
        self.assert_error(desk, InvalidNet, {}, "set_bare", 1)
        desk.set_converter(2)
        self.assert_error(desk, BlockedBy, {"number": 1}, "set_bare", 1)
        desk.release(1)
        self.assert_error(desk, Unsafe, {"need": 4}, "set_bare", 1)
        self.assert_error(desk, InvalidNet, {}, "set_bare", 3)

    def test_bookings_of_none_one_and_all_links(self):
        desk = NetDesk(Net(LINKS, channels=5))
        for route, wish in (([3, 4], 4), ([0, 4], 1), ([1], 1), ([0, 1, 2], 0)):
            desk.book(route, wish=wish)
        self.assertEqual(desk.channels_of(3), [(0, 0), (1, 0), (2, 0)])
        before = {number: dict(desk.channels_of(number)) for number in desk}
        desk.set_bare(1)
        self.assertEqual(desk.net.groups, ((0, 1, 2), (3,), (4,)))
        self.assertEqual(desk.group_state(0), parse_state("* 01 . . ."))
        self.assertEqual([desk.channels_of(number) for number in desk], [
            [(1, 4), (2, 4)], [(0, 1), (2, before[1][4])], [(0, 1)], [(0, 0)],
        ])
        self.assertEqual(desk.loads.counts, (2, 2, 1, 1, 2))
        desk.set_converter(1)
        self.assertEqual({number: dict(desk.channels_of(number)) for number in desk}, before)

    def test_set_converter_takes_wide_calls_apart(self):
        desk = NetDesk(Net(LINKS, channels=4, bare=[1, 4]))
        desk.book([0, 1, 2, 3, 4], wish=2)
        desk.book([0], wish=9)
        channels = dict(desk.channels_of(0))
        other = desk.channels_of(1)[0][1]
        desk.set_converter(1)
        self.assertEqual(desk.net.groups, ((0,), (1,), (2,), (3, 4)))
        row = [(0, channels[0]), (1, channels[0]), (2, channels[0]), (3, channels[1])]
        self.assertEqual([desk.channels_of(0), desk.channels_of(1)], [row, [(0, other)]])
        self.assertEqual(desk.group_state(3), [(-1,) if at == channels[1] else () for at in range(4)])
        self.assertEqual(desk.group_state(1), [(0,) if at == channels[0] else () for at in range(4)])
        desk.release(0)
        self.assertEqual(desk.book([1, 2, 3]), 2)
        self.assertEqual(desk.route_of(2), (1, 2, 3))


class RunTest(NetDeskTest):
    def test_drawn_deeds(self):
        draw = random.Random(53)
        done = {"book": 0, "release": 0, "set_bare": 0, "set_converter": 0}
        for _ in range(40):
            net = drawn_net(draw)
            channels = min(24, least_channels(net) + draw.randint(0, 3))
            self.run_of(NetDesk(Net(net.links, channels=channels, bare=net.bare)), draw, done)
        self.assertGreater(min(done.values()), 20, done)

    def run_of(self, desk, draw, done):
        bookings = {}
        for _ in range(60):
            kind, args, wish = self.drawn_deed(desk, draw)
            before = seen(desk)
            try:
                number = getattr(desk, kind)(*args, **wish)
            except (InvalidNet, InvalidRoute, OverLimit, NoSuchBooking, BlockedBy, Unsafe) as error:
                self.assertEqual(seen(desk), before)
                self.assert_right_error(desk, bookings, kind, args, error)
                continue
            done[kind] += 1
            if kind == "book":
                channels = dict(desk.channels_of(number))
                groups = {link: at for at, group in enumerate(desk.net.groups) for link in group}
                bookings[number] = {link: channels[groups[link]] for link in args[0]}
            if kind == "release":
                del bookings[args[0]]
            self.assert_state(desk, bookings)

    def drawn_deed(self, desk, draw):
        kind = draw.choice(("book", "book", "book", "release", "set_bare", "set_bare", "set_converter"))
        if kind == "book":
            many = len(desk.net.links)
            route = sorted(draw.sample(range(many), min(many, draw.choice((1, 1, 2, 2, 3, 4)))))
            return kind, [route], {"wish": draw.choice((0, 0, draw.randrange(30)))}
        if kind == "release":
            return kind, [draw.randrange(-1, max([2, *desk]))], {}
        return kind, [draw.randrange(-1, desk.net.places + 1)], {}

    def assert_right_error(self, desk, bookings, kind, args, error):
        if isinstance(error, BlockedBy):
            links = [link for link, ends in enumerate(desk.net.links) if args[0] in ends[:2]]
            rows = {number: [row[link] for link in links if link in row] for number, row in bookings.items()}
            blocking = [
                number for number, row in rows.items()
                if len(row) > 1 and (len(row) < len(links) or len(set(row)) > 1)
            ]
            self.assertEqual(error.number, min(blocking))
        if isinstance(error, Unsafe):
            net = Net(desk.net.links, channels=desk.net.channels, bare=[*desk.net.bare, args[0]])
            needs = [
                need(net.house_of(group), state) for group, state in enumerate(states_told(net, bookings))
            ]
            self.assertEqual([kind, error.need], ["set_bare", max(needs)])

    def assert_state(self, desk, bookings):
        net = desk.net
        states = [desk.group_state(group) for group in range(len(net.groups))]
        self.assertEqual(states, states_told(net, bookings))
        for group, state in enumerate(states):
            check_state(net.house_of(group), state)
            self.assertTrue(is_safe(net.house_of(group), state))
        needs = [need(net.house_of(group), state) for group, state in enumerate(states)]
        self.assertEqual([desk.greatest_need, list(desk), len(desk)], [max(needs), sorted(bookings), len(bookings)])
        counts = tuple(sum(link in row for row in bookings.values()) for link in range(len(net.links)))
        self.assertEqual(desk.loads.counts, counts)
        for number, row in bookings.items():
            self.assertEqual(desk.route_of(number), tuple(row))
            parts = net.parts_of(list(row))
            channels = [(group, row[[link for link in net.groups[group] if link in row][0]]) for group, _ in parts]
            self.assertEqual(desk.channels_of(number), channels)


if __name__ == "__main__":
    unittest.main()
