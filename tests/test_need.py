import unittest
from itertools import product

from tests.worlds import all_kinds, is_valid, safe_kinds, subsets
from unmovedways.errors import Unsafe
from unmovedways.house import House
from unmovedways.need import (
    bearing, find_lot, holds, is_safe, level, lots, need, outside_count, outside_limit, slack,
)
from unmovedways.notation import parse_state
from unmovedways.states import empty_state

SMALL = [
    House(limits, channels=channels, wide_limit=wide_limit)
    for limits in [(1,), (3,), (1, 2), (2, 2), (3, 3), (1, 1, 1), (2, 2, 1), (2, 2, 2), (1, 2, 1, 1)]
    for channels in (0, 1, 2, 3, 4)
    for wide_limit in (0, 1, 20)
]
LARGER = [
    House((3, 3), channels=5),
    House((4, 3), channels=5),
    House((2, 2, 2), channels=5),
    House((3, 2, 2), channels=4),
    House((3, 3, 3), channels=5),
    House((3, 3, 3), channels=5, wide_limit=1),
    House((2, 2, 2, 2), channels=3),
]


def example(text, **changes):
    return House([3, 3, 3], channels=6).changed(**changes), parse_state(text)


class LotsTest(unittest.TestCase):
    def test_all_lots(self):
        self.assertEqual(lots(1), [(0,)])
        self.assertEqual(lots(2), [(0,), (0, 1), (1,)])
        self.assertEqual(lots(3), [(0,), (0, 1), (0, 1, 2), (0, 2), (1,), (1, 2), (2,)])
        for cells in range(1, 6):
            with self.subTest(cells):
                self.assertEqual(lots(cells), sorted(subsets(cells))[1:])
                self.assertEqual(len(lots(cells)), 2 ** cells - 1)

    def test_a_new_list_each_time(self):
        found = lots(2)
        found.clear()
        self.assertEqual(len(lots(2)), 3)


class CountsTest(unittest.TestCase):
    def setUp(self):
        self.house = House([4, 2, 3], channels=6)
        self.state = parse_state(". * 0 02 12 1")

    def test_bearing(self):
        self.assertEqual(bearing(self.state), 4)
        self.assertEqual(bearing(tuple(self.state)), 4)
        self.assertEqual(bearing([]), 0)
        self.assertEqual(bearing([(), (-1,)]), 0)

    def test_outside_count(self):
        counts = {lot: outside_count(self.state, lot) for lot in [(), *lots(3)]}
        expected = {(): 4, (0,): 3, (1,): 3, (2,): 4, (0, 1): 2, (0, 2): 2, (1, 2): 2, (0, 1, 2): 0}
        self.assertEqual(counts, expected)
        self.assertEqual(outside_count(tuple(self.state), (0,)), 3)
        self.assertEqual(outside_count([(-1,), ()], ()), 0)

    def test_outside_limit(self):
        limits = {lot: outside_limit(self.house, lot) for lot in [(), *lots(3)]}
        expected = {(): 4, (0,): 3, (1,): 4, (2,): 4, (0, 1): 3, (0, 2): 2, (1, 2): 4, (0, 1, 2): 0}
        self.assertEqual(limits, expected)

    def test_level(self):
        self.assertEqual(level(self.house, self.state), 4)
        self.assertEqual(level(House([5, 2, 3], channels=6), self.state), 5)
        self.assertEqual(level(House([3, 2, 3], channels=6), self.state), 4)
        self.assertEqual(level(House([5], channels=0), []), 5)

    def test_slack_rounds_down(self):
        # inside 6, outside the greater of 2 and 3, level 4: (6 + 3 - 4) // 2
        self.assertEqual(slack(self.house, self.state, (0, 1)), 2)
        self.assertEqual(slack(self.house, self.state, (0, 1, 2)), 1)
        self.assertEqual(slack(self.house, self.state, (2,)), 3)
        self.assertEqual(slack(self.house, tuple(self.state), (1, 2)), 2)


class NeedTest(unittest.TestCase):
    def test_first_example_of_point_15(self):
        house, state = example("01 01 01 2 2 2")
        self.assertEqual([bearing(state), level(house, state)], [6, 6])
        self.assertEqual(outside_count(state, (2,)), 3)
        self.assertEqual(slack(house, state, (2,)), 0)
        self.assertEqual(need(house, state), 6)
        self.assertIs(is_safe(house, state), True)

    def test_second_example_of_point_15(self):
        house, state = example("01 01 1 0 2 2")
        self.assertEqual([bearing(state), level(house, state)], [6, 6])
        self.assertEqual(slack(house, state, (0, 1, 2)), 1)
        self.assertEqual(min(slack(house, state, lot) for lot in lots(3)), 1)
        self.assertEqual(need(house, state), 7)
        self.assertIs(is_safe(house, state), False)

    def test_examples_of_the_interface(self):
        house = House([3, 3, 3], channels=6)
        needs = [need(house, parse_state(text)) for text in ("01 01 01 2 2 2", "01 01 1 0 2 2")]
        self.assertEqual(needs, [6, 7])
        self.assertEqual(find_lot(house, parse_state("01 01 01 2 2 2")), (2,))

    def test_states_as_tuples(self):
        house, state = example("01 01 1 0 2 2")
        self.assertEqual(need(house, tuple(state)), 7)
        self.assertIs(is_safe(house, tuple(state)), False)
        house, state = example("01 01 01 2 2 2")
        self.assertEqual(find_lot(house, tuple(state)), (2,))
        self.assertEqual(state, parse_state("01 01 01 2 2 2"))

    def test_wide_limit_bounds_the_need(self):
        needs = [need(*example("01 01 1 0 2 2", wide_limit=limit)) for limit in (0, 1, 2, 20)]
        self.assertEqual(needs, [6, 7, 7, 7])
        house = House([4, 4], channels=8)
        needs = [need(house.changed(wide_limit=limit), [()] * 8) for limit in (0, 1, 2, 3, 20)]
        self.assertEqual(needs, [4, 5, 6, 6, 6])

    def test_need_does_not_depend_on_the_number_of_channels(self):
        for channels in range(6, 25):
            house, state = example("01 01 1 0 2 2", channels=channels)
            self.assertEqual(need(house, state + [()] * (channels - 6)), 7)

    def test_five_cells(self):
        house = House([20] * 5, channels=24)
        self.assertEqual(need(house, empty_state(house)), 36)
        house = House([2, 3, 4, 5, 6], channels=12)
        self.assertEqual(need(house, parse_state(". " * 11 + "01234")), 8)

    def test_fewer_channels_than_the_greatest_limit(self):
        for state in ([(), ()], [(0,), (0,)], [(-1,), ()]):
            house = House([3], channels=2)
            self.assertEqual(need(house, state), 3)
            self.assertIs(is_safe(house, state), False)
            self.assertEqual([holds(house, state, lot) for lot in [(), (0,)]], [False, False])
            with self.assertRaises(Unsafe) as found:
                find_lot(house, state)
            self.assertEqual(found.exception.need, 3)

    def test_no_channels(self):
        house = House([1], channels=0)
        self.assertEqual(need(house, []), 1)
        self.assertIs(is_safe(house, []), False)

    def test_slack_is_never_negative(self):
        for house in SMALL + LARGER:
            for state in all_kinds(house):
                slacks = [slack(house, state, lot) for lot in lots(house.cells)]
                self.assertGreaterEqual(min(slacks), 0)
                least = min([house.wide_bound, *slacks])
                self.assertEqual(need(house, state), level(house, state) + least)


class MeaningTest(unittest.TestCase):
    """Point 16: safe is what allows to give channels for ever."""

    def test_safe_states_of_all_small_houses(self):
        for house in SMALL + LARGER:
            with self.subTest(limits=house.limits, channels=house.channels, wide=house.wide_limit):
                safe = safe_kinds(house)
                found = {state for state in all_kinds(house) if is_safe(house, state)}
                self.assertEqual(found, safe)

    def test_safe_means_that_the_need_is_not_above_the_channels(self):
        for house in SMALL:
            for state in all_kinds(house):
                self.assertIs(is_safe(house, state), need(house, state) <= house.channels)

    def test_numbers_of_channels_decide_nothing(self):
        for house in LARGER[:3]:
            for state in all_kinds(house):
                self.assertEqual(need(house, list(reversed(state))), need(house, list(state)))


class LawsTest(unittest.TestCase):
    """The sentences of point 17."""

    def test_least_values(self):
        for house in SMALL + LARGER:
            for state in all_kinds(house):
                used = sum(content != () for content in state)
                self.assertGreaterEqual(need(house, state), used)
                self.assertGreaterEqual(need(house, state), house.greatest)

    def test_adding_a_call(self):
        for house in SMALL + LARGER[:4]:
            for state in all_kinds(house):
                for channel, where in product(range(house.channels), range(-1, house.cells)):
                    self.assert_step(house, state, channel, where)

    def assert_step(self, house, state, channel, where):
        content = state[channel]
        if where in content or -1 in content or (where == -1 and content != ()):
            return
        after = list(state)
        after[channel] = tuple(sorted(content + (where,)))
        if is_valid(house, after):
            rise = need(house, after) - need(house, state)
            self.assertIn(rise, (0,) if where == -1 else (0, 1))

    def test_raising_a_limit(self):
        for house in SMALL + LARGER[:4]:
            raised = [
                house.changed(limits=[limit + (at == cell) for at, limit in enumerate(house.limits)])
                for cell in range(house.cells)
            ]
            if house.wide_limit < 20:
                raised.append(house.changed(wide_limit=house.wide_limit + 1))
            for state in all_kinds(house):
                for larger in raised:
                    self.assertGreaterEqual(need(larger, state), need(house, state))

    def test_one_cell(self):
        for limit, wide_limit in product((1, 2, 19, 20), (0, 1, 20)):
            house = House([limit], channels=4, wide_limit=wide_limit)
            for state in all_kinds(house):
                self.assertEqual(need(house, state), limit)

    def simple_sum(self, house, state):
        ground = level(house, state)
        return ground + min(house.wide_bound, (house.total - ground) // house.cells)

    def test_two_cells_and_few_bearing_channels(self):
        for house in SMALL + LARGER:
            for state in all_kinds(house):
                if house.cells <= 2 or bearing(state) <= house.greatest:
                    self.assertEqual(need(house, state), self.simple_sum(house, state))

    def test_fewer_channels_than_greatest_and_least_together(self):
        for house in SMALL + LARGER:
            if house.channels < house.greatest + house.least:
                for state in all_kinds(house):
                    safe = self.simple_sum(house, state) <= house.channels
                    self.assertIs(is_safe(house, state), safe)


class HoldsTest(unittest.TestCase):
    def test_each_lot(self):
        for house in SMALL + LARGER:
            for state in all_kinds(house):
                spare = house.channels - level(house, state)
                self.assertIs(holds(house, state, ()), house.wide_bound <= spare)
                for lot in lots(house.cells):
                    shown = spare >= 0 and slack(house, state, lot) <= spare
                    self.assertIs(holds(house, state, lot), shown)

    def test_safe_exactly_if_some_lot_holds(self):
        for house in SMALL + LARGER:
            for state in all_kinds(house):
                shown = [lot for lot in [(), *lots(house.cells)] if holds(house, state, lot)]
                self.assertIs(is_safe(house, state), len(shown) > 0)
                if shown:
                    self.assertIn(find_lot(house, state), shown)
                else:
                    with self.assertRaises(Unsafe) as found:
                        find_lot(house, state)
                    self.assertEqual(found.exception.need, need(house, state))

    def test_lots_of_the_first_example(self):
        house, state = example("01 01 01 2 2 2")
        shown = [lot for lot in [(), *lots(3)] if holds(house, state, lot)]
        self.assertEqual(shown, [(2,)])

    def test_unsafe_example(self):
        house, state = example("01 01 1 0 2 2")
        with self.assertRaises(Unsafe) as found:
            find_lot(house, state)
        self.assertEqual(found.exception.need, 7)

    def test_empty_lot(self):
        house = House([3, 3], channels=6)
        self.assertIs(holds(house, empty_state(house), ()), True)
        self.assertIs(holds(house.changed(channels=5), [()] * 5, ()), False)
        self.assertIs(holds(house.changed(channels=5, wide_limit=2), [()] * 5, ()), True)
        self.assertIs(type(find_lot(house, empty_state(house))), tuple)


if __name__ == "__main__":
    unittest.main()
