import random
import unittest

from tests.worlds import added, all_calls, all_kinds, drawn_state, fitting_channels, may_come, removed
from unmovedways.errors import Refused, Unsafe
from unmovedways.house import House
from unmovedways.keeper import Keeper
from unmovedways.need import bearing, holds, is_safe, level, lots, need, outside_count
from unmovedways.notation import parse_state
from unmovedways.states import empty_state

HOUSES = [
    House(limits, channels=channels, wide_limit=wide_limit)
    for limits in [(2,), (1, 2), (2, 2), (3, 3), (2, 1, 1), (2, 2, 2), (3, 3, 3)]
    for channels in (2, 3, 4, 5)
    for wide_limit in (0, 1, 20)
]


def example_keeper():
    return Keeper(House([3, 3, 3], channels=6), parse_state("01 01 01 2 2 2"))


def ruled(keeper, state, where):
    """The channel of point 31, or None."""
    channels = fitting_channels(state, where)
    if where == -1:
        return channels[0] if channels else None
    used = [channel for channel in channels if state[channel] != ()]
    outside = [channel for channel in used if set(state[channel]) - set(keeper.lot)]
    if where not in keeper.lot and outside:
        return outside[0]
    return (used or channels or [None])[0]


class MakingTest(unittest.TestCase):
    def test_example_of_the_interface(self):
        keeper = example_keeper()
        picked = keeper(parse_state(". 01 01 2 2 2"), 0)
        self.assertEqual([keeper.lot, keeper.most_bearing, keeper.most_outside, picked], [(2,), 6, 3, 3])

    def test_unsafe(self):
        house = House([3, 3, 3], channels=6)
        for state in (parse_state("01 01 1 0 2 2"), tuple(parse_state("01 01 1 0 2 2"))):
            with self.assertRaises(Unsafe) as found:
                Keeper(house, state)
            self.assertEqual(found.exception.need, 7)
        with self.assertRaises(Unsafe) as found:
            Keeper(House([2], channels=0), [])
        self.assertEqual(found.exception.need, 2)

    def test_numbers_in_all_small_houses(self):
        for house in HOUSES:
            for state in all_kinds(house):
                if not is_safe(house, state):
                    with self.assertRaises(Unsafe) as found:
                        Keeper(house, state)
                    self.assertEqual(found.exception.need, need(house, state))
                    continue
                keeper = Keeper(house, list(state))
                self.assertIn(keeper.lot, [(), *lots(house.cells)])
                self.assertTrue(holds(house, state, keeper.lot))
                self.assertEqual(keeper.most_bearing, level(house, state))
                self.assertEqual(keeper.most_outside, self.outside_of(house, keeper))

    def outside_of(self, house, keeper):
        most = keeper.most_bearing
        if keeper.lot == ():
            return most
        inside = sum(house.limits[cell] for cell in keeper.lot)
        return most - 1 - inside + len(keeper.lot) * (house.channels + 1 - most)

    def test_empty_lot(self):
        # No other lot can hold: the wide limit alone makes the state safe.
        house = House([3, 3, 3], channels=6, wide_limit=0)
        keeper = Keeper(house, parse_state("01 01 1 0 2 2"))
        self.assertEqual([keeper.lot, keeper.most_bearing, keeper.most_outside], [(), 6, 6])

    def test_lot_of_all_cells(self):
        house = House([3, 3], channels=4)
        keeper = Keeper(house, parse_state("0 . 1 ."))
        self.assertEqual([keeper.lot, keeper.most_bearing], [(0, 1), 3])
        self.assertEqual(keeper.most_outside, 3 - 1 - 6 + 2 * 2)

    def test_argument_is_changed_behind_the_making(self):
        house, state = House([3, 3, 3], channels=6), parse_state("01 01 01 2 2 2")
        keeper = Keeper(house, state)
        state.clear()
        self.assertEqual([keeper.lot, keeper.most_bearing, keeper.most_outside], [(2,), 6, 3])
        self.assertEqual(keeper(parse_state(". 01 01 2 2 2"), 0), 3)


class PickTest(unittest.TestCase):
    def assert_pick(self, keeper, text, where, expected):
        state = parse_state(text)
        self.assertEqual(keeper(state, where), expected)
        self.assertEqual(keeper(tuple(state), where), expected)
        self.assertEqual(state, parse_state(text))

    def assert_refused(self, keeper, state, where):
        with self.subTest(state=state, where=where):
            with self.assertRaises(Refused) as found:
                keeper(state, where)
            self.assertEqual(found.exception.where, where)

    def test_wide_calls(self):
        keeper = example_keeper()
        self.assert_pick(keeper, "0 * . 2 . .", -1, 2)
        self.assert_pick(keeper, ". . . . . .", -1, 0)
        self.assert_refused(keeper, parse_state("0 1 2 0 1 *"), -1)

    def test_local_calls_in_a_cell_outside_of_the_lot(self):
        keeper = example_keeper()
        self.assertEqual(keeper.lot, (2,))
        # A channel that carries a local call outside of the lot comes first, be it the last one.
        self.assert_pick(keeper, ". 2 2 0 . 1", 0, 5)
        self.assert_pick(keeper, ". 2 12 1 * .", 0, 2)
        self.assert_pick(keeper, "2 02 . 0 12 1", 1, 1)
        # Then bearing channels, then free ones.
        self.assert_pick(keeper, ". 0 * 2 02 2", 0, 3)
        self.assert_pick(keeper, "* 0 01 . 012 .", 0, 3)
        self.assert_pick(keeper, "* * . . . .", 1, 2)
        self.assert_refused(keeper, parse_state("0 01 02 012 * 0"), 0)

    def test_local_calls_in_a_cell_of_the_lot(self):
        keeper = example_keeper()
        self.assert_pick(keeper, ". 2 2 0 . 1", 2, 3)
        self.assert_pick(keeper, ". 1 01 0 * 2", 2, 1)
        self.assert_pick(keeper, "* 2 . 02 . 12", 2, 2)
        self.assert_refused(keeper, parse_state("2 12 02 012 * *"), 2)

    def test_lots_of_several_cells(self):
        keeper = Keeper(House([3, 3], channels=4), parse_state(". . . ."))
        self.assertEqual(keeper.lot, (0, 1))
        self.assert_pick(keeper, ". . 1 .", 0, 2)
        self.assert_pick(keeper, ". 0 1 .", 1, 1)
        self.assert_pick(keeper, ". 0 * .", 0, 0)
        self.assert_pick(keeper, "01 0 * .", 0, 3)

    def test_empty_lot(self):
        keeper = Keeper(House([3, 3, 3], channels=6, wide_limit=0), parse_state("01 01 1 0 2 2"))
        self.assertEqual(keeper.lot, ())
        self.assert_pick(keeper, ". 0 2 1 02 .", 0, 2)
        self.assert_pick(keeper, ". 0 * 0 02 .", 0, 0)
        self.assert_pick(keeper, "* 0 . 0 02 .", -1, 2)

    def test_refused_without_channels_that_fit(self):
        keeper = Keeper(House([1, 1], channels=1), [()])
        for text in ("01", "*"):
            for where in (-1, 0, 1):
                self.assert_refused(keeper, parse_state(text), where)
                self.assert_refused(keeper, tuple(parse_state(text)), where)

    def test_calls_beyond_the_limits(self):
        keeper = Keeper(House([1, 1], channels=4, wide_limit=1), parse_state(". . . ."))
        self.assert_pick(keeper, ". 0 . 1", 0, 3)
        self.assert_pick(keeper, ". 0 * .", 0, 0)
        self.assert_pick(keeper, ". * . .", -1, 0)
        self.assert_pick(keeper, "01 . . .", -1, 1)

    def test_every_state_of_small_houses(self):
        for house in HOUSES:
            makers = [state for state in all_kinds(house) if is_safe(house, state)]
            keepers = {keeper.lot: keeper for keeper in [Keeper(house, state) for state in makers]}
            for keeper in keepers.values():
                for kinds in all_kinds(house):
                    for state in (kinds, kinds[::-1]):
                        for where in range(-1, house.cells):
                            expected = ruled(keeper, state, where)
                            if expected is None:
                                self.assert_refused(keeper, state, where)
                            else:
                                self.assertEqual(keeper(state, where), expected)


class RunTest(unittest.TestCase):
    """Point 32."""

    def assert_bounds(self, house, keeper, state):
        self.assertLessEqual(bearing(state), keeper.most_bearing)
        self.assertLessEqual(outside_count(state, keeper.lot), keeper.most_outside)

    def test_all_that_can_happen_in_small_houses(self):
        for house in (House([2, 2], channels=3), House([2, 2, 2], channels=3), House([2, 1, 1], channels=3),
                      House([2, 2], channels=3, wide_limit=1)):
            for first in all_kinds(house):
                if is_safe(house, first):
                    self.assert_all_runs(house, first[::-1])

    def assert_all_runs(self, house, first):
        keeper = Keeper(house, first)
        seen, waiting = {first}, [first]
        while waiting:
            state = waiting.pop()
            self.assert_bounds(house, keeper, state)
            after = [removed(state, *call) for call in all_calls(state)]
            for where in range(-1, house.cells):
                if may_come(house, state, where):
                    after.append(added(state, keeper(state, where), where))
            waiting.extend(set(after) - seen)
            seen.update(after)

    def test_drawn_runs_in_great_houses(self):
        draw = random.Random(33)
        runs, with_lot = 0, set()
        while runs < 120:
            house = House(
                [draw.randint(1, 12) for _ in range(draw.randint(1, 5))],
                channels=draw.randint(1, 24), wide_limit=draw.choice((0, 1, 2, 20)),
            )
            state = drawn_state(house, draw, draw.randint(0, 60))
            if is_safe(house, state):
                runs += 1
                with_lot.add(len(Keeper(house, state).lot))
                self.run_of(house, state, draw)
        self.assertGreater(len(with_lot), 2)

    def run_of(self, house, state, draw):
        keeper = Keeper(house, list(state))
        for _ in range(120):
            self.assert_bounds(house, keeper, state)
            where = draw.randint(-1, house.cells - 1)
            if may_come(house, state, where):
                state = added(state, keeper(list(state), where), where)
            if all_calls(state) and draw.random() < 0.45:
                state = removed(state, *draw.choice(all_calls(state)))

    def test_from_the_empty_state(self):
        house = House([20, 20], channels=24, wide_limit=4)
        self.run_of(house, tuple(empty_state(house)), random.Random(1))


if __name__ == "__main__":
    unittest.main()
