import random
import unittest

from tests.worlds import added, all_calls, all_kinds, fitting_channels, may_come, removed
from unmovedways.cellwise import cellwise_pick, is_low, lowest_free
from unmovedways.house import House
from unmovedways.need import is_safe
from unmovedways.notation import parse_state
from unmovedways.planning import zone

HOUSES = [
    House(limits, channels=channels, wide_limit=wide_limit)
    for limits in [(1,), (3,), (1, 2), (2, 2), (3, 3), (2, 1, 1), (2, 2, 2), (1, 2, 1, 1)]
    for channels in range(5)
    for wide_limit in (0, 1, 20)
]


class PickTest(unittest.TestCase):
    def assert_pick(self, text, where, expected):
        for state in (parse_state(text), tuple(parse_state(text))):
            self.assertEqual(cellwise_pick(state, where), expected)
            if where >= 0:
                self.assertEqual(lowest_free(state, where), expected)

    def test_local_calls(self):
        self.assert_pick(". . .", 0, 0)
        self.assert_pick("0 . .", 0, 1)
        self.assert_pick("0 0 * .", 0, 3)
        self.assert_pick("* . .", 2, 1)

    def test_channels_with_calls_of_other_cells(self):
        self.assert_pick("0 1 0 .", 1, 0)
        self.assert_pick("0 12 0 .", 0, 1)
        self.assert_pick("01 012 3 .", 2, 0)
        self.assert_pick("12 1 02 .", 0, 0)

    def test_no_channel_left(self):
        self.assert_pick("0 01 *", 0, -1)
        self.assert_pick("0 01 *", 1, 0)
        self.assert_pick("* *", 4, -1)
        self.assert_pick("0 01 *", -1, -1)

    def test_no_channels_at_all(self):
        for where in (-1, 0, 4):
            self.assert_pick("none", where, -1)

    def test_wide_calls_get_the_highest_free_channel(self):
        self.assert_pick(". . .", -1, 2)
        self.assert_pick(". . 0", -1, 1)
        self.assert_pick(". * 0 *", -1, 0)
        self.assert_pick("1 . * . 0", -1, 3)

    def test_all_states_of_small_houses(self):
        for house in HOUSES:
            for kinds in all_kinds(house):
                for state in (kinds, kinds[::-1]):
                    for cell in range(house.cells):
                        expected = min(fitting_channels(state, cell), default=-1)
                        self.assertEqual(lowest_free(state, cell), expected)
                        self.assertEqual(cellwise_pick(state, cell), expected)
                    self.assertEqual(cellwise_pick(state, -1), max(fitting_channels(state, -1), default=-1))

    def test_only_the_calls_that_use_the_cell_matter(self):
        for state in all_kinds(House([3, 3, 3], channels=4)):
            for cell in range(3):
                alone = [tuple(row for row in content if row in (-1, cell)) for content in state]
                self.assertEqual(lowest_free(state, cell), lowest_free(alone, cell))

    def test_argument_is_not_changed(self):
        state = parse_state(". 0 *")
        cellwise_pick(state, 0)
        cellwise_pick(state, -1)
        self.assertEqual(state, parse_state(". 0 *"))


class LowTest(unittest.TestCase):
    def assert_low(self, limits, text, expected):
        state = parse_state(text)
        house = House(limits, channels=len(state))
        self.assertIs(is_low(house, state), expected)
        self.assertIs(is_low(house, tuple(state)), expected)

    def test_border(self):
        self.assert_low([3, 1], "0 1 1 . .", True)
        self.assert_low([3, 1], "0 . . 1 .", False)
        self.assert_low([1, 3], ". . 1 . .", True)
        self.assert_low([1, 3], ". . . 1 .", False)
        self.assert_low([1, 3], ". . . . 01", False)
        self.assert_low([1], "0", True)
        self.assert_low([1], ". 0", False)

    def test_wide_calls_may_stand_anywhere(self):
        self.assert_low([2, 2], "0 1 . *", True)
        self.assert_low([2, 2], "* . * *", True)
        self.assert_low([2, 2], "0 . 1 *", False)
        self.assert_low([2, 2], "0 . * 1", False)

    def test_few_channels(self):
        self.assert_low([5], "0 0", True)
        self.assert_low([5], "none", True)
        self.assert_low([5, 2], ". . . . .", True)

    def test_all_states_of_small_houses(self):
        for house in HOUSES:
            for kinds in all_kinds(house):
                for state in (kinds, kinds[::-1]):
                    numbers = [at for at, content in enumerate(state) if content not in ((), (-1,))]
                    self.assertIs(is_low(house, state), all(at < house.greatest for at in numbers))

    def test_low_states_are_safe(self):
        for house in HOUSES:
            if zone(house) != "hopeless":
                for kinds in all_kinds(house):
                    for state in (kinds, kinds[::-1]):
                        if is_low(house, state):
                            self.assertTrue(is_safe(house, state))

    def test_all_that_can_happen_in_small_houses(self):
        for house in HOUSES:
            if zone(house) != "hopeless" and house.channels < 4:
                low = [state for kinds in all_kinds(house) for state in (kinds, kinds[::-1]) if is_low(house, state)]
                self.assert_all_runs(house, low)

    def assert_all_runs(self, house, first):
        seen, waiting = set(first), list(first)
        while waiting:
            state = waiting.pop()
            self.assertTrue(is_low(house, state))
            after = [removed(state, *call) for call in all_calls(state)]
            for where in range(-1, house.cells):
                if may_come(house, state, where):
                    channel = cellwise_pick(state, where)
                    self.assertIn(channel, fitting_channels(state, where))
                    after.append(added(state, channel, where))
            waiting.extend(set(after) - seen)
            seen.update(after)

    def test_drawn_runs_in_great_houses(self):
        draw = random.Random(34)
        for limits, channels in (([20, 4], 22), ([9, 8, 7], 14), ([5] * 5, 9), ([3, 2, 2, 3], 4)):
            house = House(limits, channels=channels)
            self.assertNotEqual(zone(house), "hopeless")
            state = ((),) * channels
            for _ in range(400):
                where = draw.randint(-1, house.cells - 1)
                if may_come(house, state, where):
                    channel = cellwise_pick(state, where)
                    self.assertIn(channel, fitting_channels(state, where))
                    state = added(state, channel, where)
                if all_calls(state) and draw.random() < 0.4:
                    state = removed(state, *draw.choice(all_calls(state)))
                self.assertTrue(is_low(house, state))


if __name__ == "__main__":
    unittest.main()
