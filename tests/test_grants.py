import random
import unittest
from itertools import permutations

from tests.worlds import (
    added, all_calls, all_kinds, drawn_state, fitting_channels, may_come, removed, safe_kinds,
)
from unmovedways.errors import OverLimit
from unmovedways.grants import grants, steady_grants
from unmovedways.house import House
from unmovedways.need import is_safe, need
from unmovedways.notation import parse_state
from unmovedways.plays import duel
from unmovedways.states import empty_state

HOUSES = [
    House(limits, channels=channels, wide_limit=wide_limit)
    for limits in [(2,), (1, 2), (2, 2), (3, 3), (2, 1, 1), (2, 2, 2), (3, 2, 2)]
    for channels in (2, 3, 4)
    for wide_limit in (0, 1, 20)
]


def turned(state):
    return state[len(state) // 2:] + state[:len(state) // 2]


class GrantsTest(unittest.TestCase):
    def assert_answer(self, asked, house, state, where, expected):
        answer = asked(house, list(state), where)
        self.assertIs(type(answer), list)
        self.assertEqual(answer, expected)
        self.assertEqual(asked(house, tuple(state), where), expected)
        self.assertIsNot(asked(house, state, where), answer)

    def test_example_of_the_interface(self):
        house, state = House([3, 3], channels=4), parse_state("0 1 0 .")
        self.assert_answer(grants, house, state, 1, [0, 2])
        self.assertEqual(state, parse_state("0 1 0 ."))

    def test_needs_of_the_states_that_follow(self):
        for house in HOUSES:
            for kinds in all_kinds(house):
                state = turned(kinds)
                before = need(house, state)
                for where in range(-1, house.cells):
                    if may_come(house, state, where):
                        needs = {
                            channel: need(house, added(state, channel, where))
                            for channel in fitting_channels(state, where)
                        }
                        safe = [channel for channel in needs if needs[channel] <= house.channels]
                        steady = [channel for channel in needs if needs[channel] == before]
                        self.assert_answer(grants, house, state, where, safe)
                        self.assert_answer(steady_grants, house, state, where, steady)

    def test_laws_of_point_29(self):
        for house in HOUSES:
            for state in all_kinds(house):
                safe = is_safe(house, state)
                for where in range(-1, house.cells):
                    if may_come(house, state, where):
                        all_grants = grants(house, state, where)
                        if safe:
                            steady = steady_grants(house, state, where)
                            self.assertTrue(steady)
                            self.assertLessEqual(set(steady), set(all_grants))
                        else:
                            self.assertEqual(all_grants, [])

    def test_unsafe_state_with_steady_grants(self):
        house, state = House([3, 3], channels=3), parse_state("0 . .")
        self.assert_answer(grants, house, state, 1, [])
        self.assert_answer(steady_grants, house, state, 1, [0, 1, 2])
        self.assert_answer(grants, house, state, -1, [])
        self.assert_answer(steady_grants, house, state, -1, [1, 2])
        full = parse_state("0 0 0")
        self.assert_answer(steady_grants, house.changed(limits=[4, 3]), full, 0, [])

    def test_wide_calls(self):
        house = House([3, 3], channels=4)
        self.assert_answer(grants, house, parse_state(". 0 . *"), -1, [0, 2])
        self.assert_answer(steady_grants, house, parse_state(". 0 . *"), -1, [0, 2])

    def test_grants_that_raise_the_need(self):
        house, state = House([3, 3], channels=5), parse_state("0 0 1 1 .")
        self.assert_answer(grants, house, state, 0, [2, 3, 4])
        smaller = parse_state("0 0 1 . .")
        self.assert_answer(grants, house, smaller, 1, [0, 1, 3, 4])
        self.assert_answer(steady_grants, house, smaller, 1, [0, 1])

    def assert_over(self, house, state, where):
        for asked in (grants, steady_grants):
            for given in (list(state), tuple(state)):
                with self.subTest(asked=asked.__name__, state=state, where=where):
                    with self.assertRaises(OverLimit) as found:
                        asked(house, given, where)
                    self.assertEqual(found.exception.where, where)

    def test_cells_at_their_limits(self):
        house = House([2, 1, 3], channels=6)
        state = parse_state("02 0 12 2 . .")
        for where in (0, 1, 2, -1):
            self.assert_over(house, state, where)
        # Wide calls count for each cell.
        self.assert_over(house, parse_state("* 0 . . . ."), 0)
        self.assert_over(house, parse_state("* 0 . . . ."), 1)
        self.assertNotEqual(grants(house, parse_state("* 0 . . . ."), 2), [])

    def test_wide_limits(self):
        house = House([3, 3], channels=6, wide_limit=2)
        self.assert_over(house, parse_state("* . * . . ."), -1)
        self.assertEqual(grants(house, parse_state("* . . . . ."), -1), [1, 2, 3, 4, 5])
        self.assert_over(house.changed(wide_limit=0), parse_state(". . . . . ."), -1)
        # One cell at its limit is enough.
        self.assert_over(house, parse_state("1 1 1 . . ."), -1)
        self.assert_over(house.changed(limits=[1, 3]), parse_state("0 . . . . ."), -1)

    def test_over_the_limit_in_unsafe_states(self):
        house = House([3, 3], channels=3, wide_limit=1)
        self.assert_over(house, parse_state("0 0 0"), 0)
        self.assert_over(house, parse_state("* . ."), -1)
        self.assert_over(house.changed(wide_limit=0), parse_state("0 1 1"), -1)

    def test_all_calls_that_are_not_allowed(self):
        for house in HOUSES[::3]:
            for state in all_kinds(house):
                for where in range(-1, house.cells):
                    if not may_come(house, state, where):
                        self.assert_over(house, state, where)


class MeaningTest(unittest.TestCase):
    """The sentences of point 30."""

    def run_of(self, house, draw, pick):
        state = tuple(empty_state(house))
        for _ in range(150):
            where = draw.randint(-1, house.cells - 1)
            if may_come(house, state, where):
                channels = grants(house, state, where)
                self.assertTrue(channels)
                state = added(state, pick(channels), where)
                self.assertTrue(is_safe(house, state))
            if all_calls(state) and draw.random() < 0.4:
                state = removed(state, *draw.choice(all_calls(state)))

    def test_runs_never_end(self):
        draw = random.Random(30)
        for house in (House([3, 3], channels=4), House([3, 3, 3], channels=5), House([3, 2, 2, 3], channels=4),
                      House([9, 8, 7], channels=14), House([5] * 5, channels=9), House([4, 2], channels=5, wide_limit=1)):
            for pick in (lambda row: row[0], lambda row: row[-1], draw.choice):
                self.run_of(house, draw, pick)

    def test_another_channel_loses(self):
        lost = 0
        for house in HOUSES:
            for state in safe_kinds(house):
                for where in range(-1, house.cells):
                    if may_come(house, state, where):
                        given = grants(house, state, where)
                        for channel in fitting_channels(state, where):
                            if channel not in given:
                                lost += 1
                                after = added(state, channel, where)
                                self.assertEqual(duel(house, after, [1, 2, 3])[-1][2], -1)
        self.assertGreater(lost, 100)

    def assert_reached(self, house, state, calls):
        """Lets the calls of the state come in this order, each on its own channel."""
        present = tuple(empty_state(house))
        for channel, where in calls:
            self.assertIn(channel, grants(house, present, where))
            present = added(present, channel, where)
        self.assertEqual(present, tuple(state))

    def test_each_safe_state_is_reached(self):
        draw = random.Random(31)
        for house in HOUSES:
            for state in safe_kinds(house):
                calls = all_calls(state)
                orders = list(permutations(calls)) if len(calls) < 4 else [calls, calls[::-1]]
                orders.append(draw.sample(calls, len(calls)))
                for order in orders:
                    self.assert_reached(house, state, order)

    def test_safe_states_of_great_houses_are_reached(self):
        draw = random.Random(32)
        reached = 0
        while reached < 40:
            house = House([draw.randint(1, 9) for _ in range(draw.randint(2, 5))], channels=draw.randint(8, 24))
            state = drawn_state(house, draw, 60)
            if is_safe(house, state):
                reached += 1
                calls = all_calls(state)
                self.assert_reached(house, state, draw.sample(calls, len(calls)))


if __name__ == "__main__":
    unittest.main()
