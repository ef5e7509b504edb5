import random
import unittest

from tests.deeds import DeedTest
from tests.worlds import added, all_kinds, fitting_channels, may_come
from unmovedways.closing import may_close, rest_house, rest_state
from unmovedways.desk import Desk
from unmovedways.errors import (
    ChannelTaken, InvalidHouse, InvalidState, NoSuchCall, NoSuchChannel, OverLimit, Unsafe,
)
from unmovedways.house import House
from unmovedways.need import is_safe, need
from unmovedways.notation import parse_state


def values(house):
    return [house.limits, house.channels, house.wide_limit]


def seen(desk):
    """All that can be read of a desk."""
    return [*values(desk.house), list(desk.state), desk.closed, desk.spare, list(desk), len(desk)]


def desk_of(limits, text, closed=(), wide_limit=20):
    """A desk with this state whose channels were closed in this order."""
    state = parse_state(text)
    desk = Desk(House(limits, channels=len(state), wide_limit=wide_limit), state)
    for channel in closed:
        desk.close(channel)
    return desk


class DeskTest(DeedTest):
    seen = staticmethod(seen)


class MakingTest(DeskTest):
    def test_without_a_state(self):
        house = House([3, 3], channels=5)
        for desk in (Desk(house), Desk(house, None)):
            self.assertEqual(seen(desk), [(3, 3), 5, 20, [()] * 5, (), 1, [], 0])
            self.assertEqual(values(desk.house), values(house))

    def test_with_a_state(self):
        state = parse_state("01 01 01 2 2 2")
        house = House([3, 3, 3], channels=6)
        for given in (state, tuple(state)):
            desk = Desk(house, given)
            self.assertIs(type(desk.state), list)
            self.assertEqual([desk.state, desk.closed, desk.spare, list(desk)], [state, (), 0, []])

    def test_the_list_is_changed_afterwards(self):
        state = parse_state("0 1 0 . .")
        desk = Desk(House([3, 3], channels=5), state)
        state[3] = (0, 1)
        state.pop()
        self.assertEqual(desk.state, parse_state("0 1 0 . ."))
        self.assertEqual(desk.come(1, wish=2), 3)
        self.assertEqual(state, parse_state("0 1 0 01"))

    def assert_not_made(self, house, state, kind, attributes):
        for given in (list(state), tuple(state)):
            with self.subTest(state=given):
                with self.assertRaises(kind) as found:
                    Desk(house, given)
                self.assertEqual(vars(found.exception), attributes)

    def test_invalid_states(self):
        house = House([1, 1], channels=3, wide_limit=1)
        self.assert_not_made(house, [(), ()], InvalidState, {"channel": -1})
        self.assert_not_made(house, [], InvalidState, {"channel": -1})
        self.assert_not_made(house, [(), (1, 0), (2,)], InvalidState, {"channel": 1})
        self.assert_not_made(house, [(0,), (0,), ()], OverLimit, {"where": 0})
        self.assert_not_made(house, [(1,), (), (-1,)], OverLimit, {"where": 1})
        self.assert_not_made(house.changed(wide_limit=0), [(-1,), (), ()], OverLimit, {"where": -1})

    def test_unsafe_states(self):
        house = House([3, 3], channels=4)
        self.assert_not_made(house, parse_state("0 0 1 1"), Unsafe, {"need": 5})
        self.assert_not_made(House([1], channels=0), [], Unsafe, {"need": 1})
        for state in (None, [()] * 3):
            with self.assertRaises(Unsafe) as found:
                Desk(house.changed(channels=3), state)
            self.assertEqual(found.exception.need, 4)

    def test_order_of_errors(self):
        hopeless = House([3, 3], channels=3, wide_limit=1)
        self.assert_not_made(hopeless, [(), ()], InvalidState, {"channel": -1})
        self.assert_not_made(hopeless, [(-1,), (-1,), (7,)], InvalidState, {"channel": 2})
        self.assert_not_made(hopeless, [(-1,), (-1,), ()], OverLimit, {"where": -1})
        self.assert_not_made(hopeless.changed(limits=[1, 3]), [(-1,), (-1,), ()], OverLimit, {"where": 0})
        self.assert_not_made(hopeless, [(), (), ()], Unsafe, {"need": 4})


class ExamplesTest(DeskTest):
    def test_first_example(self):
        desk = Desk(House([2], channels=4, wide_limit=1))
        first = desk.come(-1)
        desk.close(first)
        second = desk.come(0, wish=4)
        records = [("come", -1, 0), ("close", 0), ("come", 0, 2)]
        self.assertEqual(
            [first, second, desk.state, desk.closed, desk.spare, list(desk)],
            [0, 2, [(-1,), (), (0,), ()], (0,), 1, records],
        )

    def test_second_example(self):
        desk = Desk(House([2], channels=4, wide_limit=1))
        desk.close(desk.come(-1))
        self.assert_error(desk, OverLimit, {"where": -1}, "come", -1)
        self.assert_error(desk, OverLimit, {"where": -1}, "grants", -1)


class ComeTest(DeskTest):
    def test_grants_of_all_small_states(self):
        for house in (House([2, 2], channels=4), House([2, 1, 1], channels=4), House([3, 3], channels=4, wide_limit=1)):
            for state in all_kinds(house):
                if is_safe(house, state):
                    for channel in range(-1, house.channels):
                        if channel == -1 or may_close(house, state, [channel]):
                            self.assert_grants(house, state, [channel] if channel >= 0 else [])

    def assert_grants(self, house, state, closed):
        desk = Desk(house, state)
        for channel in closed:
            desk.close(channel)
        for where in range(-1, house.cells):
            if may_come(house, state, where):
                open_ones = [channel for channel in fitting_channels(state, where) if channel not in closed]
                expected = [row for row in open_ones if may_close(house, added(state, row, where), closed)]
                self.assertEqual(desk.grants(where), expected)
                self.assertTrue(expected)
                self.assert_wishes(desk, where, expected)
            else:
                self.assert_error(desk, OverLimit, {"where": where}, "grants", where)
                self.assert_error(desk, OverLimit, {"where": where}, "come", where, wish=1)

    def assert_wishes(self, desk, where, channels):
        before = desk.state
        for wish in (0, 1, len(channels) - 1, len(channels), len(channels) + 1, 10 ** 30):
            channel = desk.come(where, wish=wish)
            self.assertEqual(channel, channels[wish % len(channels)])
            self.assertEqual(desk.state, list(added(before, channel, where)))
            self.assertEqual(list(desk), [*list(desk)[:-1], ("come", where, channel)])
            desk.undo()

    def test_left_out_wish_is_the_first_grant(self):
        desk = desk_of([3, 3], "0 1 0 .")
        self.assertEqual(desk.grants(1), [0, 2])
        self.assertEqual(desk.come(1), 0)

    def test_grants_with_closed_channels(self):
        desk = desk_of([3, 3], ". . . . . .", [4, 1])
        self.assertEqual(desk.grants(0), [0, 2, 3, 5])
        self.assertEqual(desk.grants(-1), [0, 2, 3, 5])
        self.assertEqual(desk.come(0, wish=3), 5)
        self.assertEqual(desk.come(0, wish=1), 2)
        self.assertEqual(desk.grants(1), [0, 2, 3, 5])

    def test_calls_on_closed_channels_count_for_the_limits(self):
        desk = desk_of([2, 2], "0 . . . .")
        desk.close(0)
        self.assertEqual(desk.come(0), 1)
        self.assert_error(desk, OverLimit, {"where": 0}, "come", 0)
        self.assert_error(desk, OverLimit, {"where": -1}, "come", -1)
        desk.go(0, 0)
        self.assertEqual(desk.state, parse_state(". 0 . . ."))
        self.assertEqual(desk.closed, (0,))
        self.assertNotIn(desk.come(0), (0, 1))

    def test_calls_on_closed_channels_count_for_the_wide_limit(self):
        desk = desk_of([4], "* . . . . .", wide_limit=1)
        desk.close(0)
        self.assert_error(desk, OverLimit, {"where": -1}, "grants", -1)
        desk.go(0, -1)
        self.assertEqual(desk.come(-1), 1)

    def test_order_of_errors(self):
        desk = desk_of([1, 1], "01 . .")
        for where in (-1, 0, 1):
            self.assert_error(desk, OverLimit, {"where": where}, "come", where)
            self.assert_error(desk, OverLimit, {"where": where}, "grants", where)


class GoTest(DeskTest):
    def test_calls_go(self):
        desk = desk_of([3, 3], "01 * 1 . .")
        self.assertIsNone(desk.go(0, 0))
        self.assertIsNone(desk.go(1, -1))
        self.assertEqual(desk.state, parse_state("1 . 1 . ."))
        self.assertEqual(list(desk), [("go", 0, 0), ("go", 1, -1)])

    def test_no_such_call(self):
        desk = desk_of([3, 3], "01 * 1 . .")
        for channel, where in ((0, -1), (1, 0), (2, 0), (3, 1), (4, -1), (5, 0), (-1, 1), (-5, 0), (10 ** 9, 0)):
            attributes = {"channel": channel, "where": where}
            self.assert_error(desk, NoSuchCall, attributes, "go", channel, where)
        desk.go(0, 1)
        self.assert_error(desk, NoSuchCall, {"channel": 0, "where": 1}, "go", 0, 1)


class CloseTest(DeskTest):
    def test_close_and_reopen(self):
        desk = desk_of([3, 3], "0 1 0 . . .")
        self.assertEqual(desk.spare, 2)
        self.assertIsNone(desk.close(5))
        self.assertIsNone(desk.close(0))
        self.assertIs(type(desk.closed), tuple)
        self.assertEqual([desk.closed, desk.spare], [(0, 5), 0])
        self.assertEqual(desk.state, parse_state("0 1 0 . . ."))
        self.assertIsNone(desk.reopen(5))
        self.assertEqual([desk.closed, desk.spare], [(0,), 1])
        self.assertEqual(list(desk), [("close", 5), ("close", 0), ("reopen", 5)])

    def test_no_such_channel(self):
        desk = desk_of([2, 2], ". . . . . .", [3, 1])
        for channel in (1, 3, 6, 7, -1, -6, 10 ** 9):
            self.assert_error(desk, NoSuchChannel, {"channel": channel}, "close", channel)
        for channel in (0, 2, 6, 5, -1, -3, 10 ** 9):
            self.assert_error(desk, NoSuchChannel, {"channel": channel}, "reopen", channel)
        desk.reopen(1)
        self.assert_error(desk, NoSuchChannel, {"channel": 1}, "reopen", 1)

    def test_too_few_channels_would_be_left(self):
        desk = desk_of([3, 3], "0 0 1 1 .")
        self.assertEqual(desk.spare, 0)
        # Without channel 4 the rest needs 5, without channel 0 it needs 4.
        self.assert_error(desk, Unsafe, {"need": 5}, "close", 4)
        desk.close(0)
        self.assertEqual(desk.spare, 0)
        self.assert_error(desk, Unsafe, {"need": 4}, "close", 1)
        self.assert_error(desk, Unsafe, {"need": 4}, "close", 4)
        self.assert_error(desk, NoSuchChannel, {"channel": 0}, "close", 0)

    def test_error_at_the_border_of_safety(self):
        for house in (House([2, 2], channels=4), House([2, 2, 2], channels=4)):
            for state in all_kinds(house):
                if is_safe(house, state):
                    for channel in range(house.channels):
                        desk = Desk(house, state)
                        rest = rest_state(state, [channel])
                        wanted = need(rest_house(house, [channel]), rest)
                        if wanted <= 3:
                            desk.close(channel)
                            self.assertEqual([desk.closed, desk.spare], [(channel,), 3 - wanted])
                        else:
                            self.assert_error(desk, Unsafe, {"need": wanted}, "close", channel)

    def test_closed_channels_get_no_calls(self):
        desk = desk_of([2, 2], "0 . . . .", [0, 2])
        self.assertEqual(desk.grants(1), [1, 3, 4])
        desk.reopen(0)
        self.assertEqual(desk.grants(1), [0, 1, 3, 4])

    def test_closed_is_ascending_from_any_order(self):
        desk = desk_of([1], ". . . . .", [3, 0, 2, 4])
        self.assertEqual(desk.closed, (0, 2, 3, 4))
        self.assert_error(desk, Unsafe, {"need": 1}, "close", 1)


class ChangeTest(DeskTest):
    def assert_changed(self, desk, changes, expected):
        """Checks the house, the state, the closed channels and the record after a change."""
        before = len(desk)
        house, text, closed = expected
        self.assertIsNone(desk.change(**changes))
        self.assertEqual([values(desk.house), desk.state, desk.closed], [house, parse_state(text), closed])
        self.assertEqual(list(desk)[before:], [("change", *house)])
        self.assertIs(type(list(desk)[-1][1]), tuple)

    def test_each_value_alone_and_all_of_them(self):
        for changes, expected in (
            ({"limits": [2, 3]}, ([(2, 3), 5, 20], "0 1 . . .", ())),
            ({"limits": (2, 3)}, ([(2, 3), 5, 20], "0 1 . . .", ())),
            ({"channels": 7}, ([(3, 3), 7, 20], "0 1 . . . . .", ())),
            ({"wide_limit": 0}, ([(3, 3), 5, 0], "0 1 . . .", ())),
            ({"limits": [4, 4], "channels": 6, "wide_limit": 2}, ([(4, 4), 6, 2], "0 1 . . . .", ())),
            ({"limits": None, "channels": 4, "wide_limit": None}, ([(3, 3), 4, 20], "0 1 . .", ())),
        ):
            self.assert_changed(desk_of([3, 3], "0 1 . . ."), changes, expected)

    def test_a_change_that_alters_nothing(self):
        same = ([(3, 3), 5, 20], "0 1 . . .", (4,))
        desk = desk_of([3, 3], "0 1 . . .", [4])
        self.assert_changed(desk, {}, same)
        self.assert_changed(desk, {"limits": None, "channels": None, "wide_limit": None}, same)
        self.assert_changed(desk, {"limits": [3, 3], "channels": 5, "wide_limit": 20}, same)
        self.assertEqual(len(desk), 4)

    def test_the_list_is_changed_afterwards(self):
        desk, limits = desk_of([3, 3], "0 1 . . ."), [2, 2]
        desk.change(limits=limits)
        limits[0] = 9
        self.assertEqual([desk.house.limits, list(desk)], [(2, 2), [("change", (2, 2), 5, 20)]])

    def test_no_house(self):
        desk = desk_of([3, 3], "0 1 . . .")
        for changes in (
            {"limits": []}, {"limits": [3]}, {"limits": [3, 3, 3]}, {"limits": [3] * 6}, {"limits": [0, 3]},
            {"limits": [3, 21]}, {"channels": -1}, {"channels": 25}, {"wide_limit": -1}, {"wide_limit": 21},
            {"limits": [1], "channels": 1}, {"limits": [3, 3, 3], "channels": 0, "wide_limit": 0},
        ):
            self.assert_error(desk, InvalidHouse, {}, "change", **changes)

    def test_fewer_channels(self):
        text = "0 . . * 1 . 01 . ."
        self.assert_changed(desk_of([3, 3], text), {"channels": 7}, ([(3, 3), 7, 20], "0 . . * 1 . 01", ()))
        desk = desk_of([3, 3], text, [7, 6, 1])
        self.assert_changed(desk, {"channels": 7}, ([(3, 3), 7, 20], "0 . . * 1 . 01", (1, 6)))
        # Channels that come again are free and not closed.
        self.assert_changed(desk, {"channels": 9}, ([(3, 3), 9, 20], text, (1, 6)))

    def test_channels_in_use_at_the_end(self):
        for text, channel in (("0 . . * 1 . 01 . .", 6), ("0 . . . . . * . .", 6), ("0 . . . . * 1 0 .", 5)):
            desk = desk_of([3, 3], text)
            for channels in (5, 4):
                wanted = 4 if desk.state[4] and channels == 4 else channel
                self.assert_error(desk, ChannelTaken, {"channel": wanted}, "change", channels=channels)
        desk = desk_of([3, 3], ". . . . . * 1", [5, 6])
        self.assert_error(desk, ChannelTaken, {"channel": 5}, "change", channels=5)
        self.assert_error(desk, ChannelTaken, {"channel": 6}, "change", channels=6)
        self.assert_error(desk, ChannelTaken, {"channel": 5}, "change", channels=0)

    def test_limits_below_the_loads(self):
        desk = desk_of([3, 3], "01 0 * . . 1", [1])
        self.assert_changed(desk, {"limits": [3, 3]}, ([(3, 3), 6, 20], "01 0 * . . 1", (1,)))
        self.assert_error(desk, OverLimit, {"where": 0}, "change", limits=[2, 3])
        self.assert_error(desk, OverLimit, {"where": 1}, "change", limits=[3, 2])
        self.assert_error(desk, OverLimit, {"where": 0}, "change", limits=[1, 1])
        self.assert_error(desk, OverLimit, {"where": 1}, "change", limits=[3, 2], wide_limit=0)
        self.assert_error(desk, OverLimit, {"where": -1}, "change", wide_limit=0)
        desk.change(wide_limit=1)
        self.assertEqual(desk.house.wide_limit, 1)

    def test_unsafe(self):
        desk = desk_of([3, 3], "0 0 1 1 .")
        self.assert_error(desk, Unsafe, {"need": 5}, "change", channels=4)
        self.assert_error(desk, Unsafe, {"need": 6}, "change", limits=[4, 4])
        self.assert_changed(desk, {"limits": [4, 4], "channels": 6}, ([(4, 4), 6, 20], "0 0 1 1 . .", ()))
        # Closed channels do not help: of the six, one is closed.
        desk = desk_of([3, 3], "0 . . . . .", [0])
        self.assert_error(desk, Unsafe, {"need": 4}, "change", channels=4)
        self.assert_error(desk, Unsafe, {"need": 9}, "change", limits=[6, 6])
        self.assert_changed(desk, {"channels": 5}, ([(3, 3), 5, 20], "0 . . . .", (0,)))

    def test_closed_channels_at_the_end_leave_with_the_rest(self):
        desk = desk_of([3, 3], "0 . . . . .", [5, 4])
        self.assert_changed(desk, {"channels": 4}, ([(3, 3), 4, 20], "0 . . .", ()))
        self.assertEqual(desk.spare, 0)

    def test_order_of_errors(self):
        desk = desk_of([3, 3], "01 0 * . . 1")
        self.assert_error(desk, InvalidHouse, {}, "change", limits=[1], channels=2)
        self.assert_error(desk, InvalidHouse, {}, "change", channels=2, wide_limit=21)
        self.assert_error(desk, ChannelTaken, {"channel": 2}, "change", limits=[1, 1], channels=2)
        self.assert_error(desk, ChannelTaken, {"channel": 5}, "change", channels=3, wide_limit=0)
        self.assert_error(desk, OverLimit, {"where": 1}, "change", limits=[20, 2], wide_limit=0)
        self.assert_error(desk, OverLimit, {"where": -1}, "change", limits=[20, 20], wide_limit=0)
        self.assert_error(desk, Unsafe, {"need": 30}, "change", limits=[20, 20])


class CopiesTest(DeskTest):
    def test_lists_that_were_returned_are_changed(self):
        desk = desk_of([3, 3], "0 1 . . .")
        desk.come(0)
        before = seen(desk)
        desk.state.append((7,))
        desk.state[0] = ()
        desk.grants(1).clear()
        list(desk).clear()
        self.assertEqual(seen(desk), before)
        self.assertIsNot(desk.state, desk.state)
        self.assertEqual(desk.grants(1), desk.grants(1))

    def test_a_list_that_was_read_stays(self):
        desk = desk_of([3, 3], ". . . .")
        state, records, closed = desk.state, list(desk), desk.closed
        desk.come(0)
        self.assertEqual([state, records, closed], [[()] * 4, [], ()])

    def test_two_desks_of_one_state(self):
        house, state = House([3, 3], channels=5), parse_state("0 . . . .")
        one, other = Desk(house, state), Desk(house, state)
        one.come(1)
        one.close(4)
        one.go(0, 0)
        self.assertEqual(seen(other), [(3, 3), 5, 20, state, (), 1, [], 0])

    def test_the_house_that_was_passed_stays(self):
        house = House([3, 3], channels=5)
        desk = Desk(house)
        desk.change(limits=[1, 1], channels=2, wide_limit=0)
        self.assertEqual([values(house), values(desk.house)], [[(3, 3), 5, 20], [(1, 1), 2, 0]])


class RunTest(DeskTest):
    def test_drawn_deeds(self):
        draw = random.Random(37)
        for _ in range(25):
            house = House([draw.randint(1, 5) for _ in range(draw.randint(1, 4))], channels=draw.randint(10, 18))
            self.run_of(Desk(house), draw)

    def run_of(self, desk, draw):
        for number in range(80):
            before = seen(desk)
            try:
                self.deed(desk, draw)
            except (OverLimit, NoSuchCall, NoSuchChannel, Unsafe, ChannelTaken):
                self.assertEqual(seen(desk), before)
            else:
                self.assertEqual(list(desk)[:-1], before[6])
            rest = rest_state(desk.state, desk.closed)
            self.assertTrue(is_safe(rest_house(desk.house, desk.closed), rest))
            self.assertEqual(desk.spare, len(rest) - need(desk.house, rest))
            self.assertGreaterEqual(desk.spare, 0)

    def deed(self, desk, draw):
        channel = draw.randint(-1, desk.house.channels)
        where = draw.randint(-1, desk.house.cells - 1)
        kind = draw.choice(("come", "come", "come", "go", "go", "close", "reopen", "change"))
        if kind == "come":
            desk.come(where, wish=draw.randint(0, 30))
        elif kind == "go":
            desk.go(channel, where)
        elif kind == "change":
            desk.change(channels=draw.randint(8, 20), wide_limit=draw.choice((None, 2, 20)))
        else:
            getattr(desk, kind)(channel)


if __name__ == "__main__":
    unittest.main()
