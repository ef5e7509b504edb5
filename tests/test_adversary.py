import copy
import random
import unittest

from tests.worlds import added, all_kinds, drawn_state, fitting_channels, may_come, removed
from unmovedways.adversary import Adversary
from unmovedways.errors import SafeState
from unmovedways.house import House
from unmovedways.need import is_safe, need
from unmovedways.notation import parse_state
from unmovedways.states import empty_state

HOUSES = [
    House(limits, channels=channels, wide_limit=wide_limit)
    for limits in [(1,), (3,), (1, 2), (2, 2), (3, 3), (1, 1, 1), (2, 2, 1), (2, 2, 2), (1, 2, 1, 1)]
    for channels in range(5)
    for wide_limit in (0, 1, 20)
]


def lowest(channels):
    return channels[0]


def highest(channels):
    return channels[-1]


def drawn(seed):
    return random.Random(seed).choice


def unsafe_states(house):
    return [state for state in all_kinds(house) if need(house, state) > house.channels]


def turned(state):
    """The same contents on other channels."""
    return state[len(state) // 2:] + state[:len(state) // 2]


def after(state, event, channel):
    if event[0] == "go":
        return removed(state, event[1], event[2])
    return added(state, channel, event[1])


class PlayTest(unittest.TestCase):
    def assert_allowed(self, house, state, event):
        """Checks that the event is written as point 9 says and allowed in the state."""
        self.assertIs(type(event), tuple)
        if event[0] == "go":
            self.assertEqual(len(event), 3)
            self.assertIn(event[1], range(len(state)))
            self.assertIn(event[2], state[event[1]])
        else:
            self.assertEqual([event[0], len(event)], ["come", 2])
            self.assertIn(event[1], range(-1, house.cells))
            self.assertTrue(may_come(house, state, event[1]))

    def play(self, house, state, pick):
        """Plays to the call that fits no channel, and returns the number of its event."""
        adversary = Adversary(house, list(state))
        for number in range(1, adversary.bound + 1):
            event = adversary.next_event(list(state))
            self.assertEqual(adversary.count, number)
            self.assert_allowed(house, state, event)
            channel = None
            if event[0] == "come":
                channels = fitting_channels(state, event[1])
                if not channels:
                    return number
                channel = pick(channels)
            state = after(state, event, channel)
        self.fail("no call without a channel within the bound")

    def test_all_states_of_small_houses(self):
        for house in HOUSES:
            for state in unsafe_states(house):
                with self.subTest(house=vars(house), state=state):
                    for pick in (lowest, highest, drawn(3)):
                        self.play(house, state, pick)
                        self.play(house, turned(state), pick)

    def test_every_answer_in_tiny_houses(self):
        for limits, channels in (((1, 1), 1), ((2, 1), 2), ((2, 2), 2), ((2, 2), 3), ((2, 2, 2), 3)):
            house = House(limits, channels=channels)
            for state in unsafe_states(house):
                self.assert_beaten(house, state, Adversary(house, state))

    def assert_beaten(self, house, state, adversary):
        """Plays all ways to give channels that lead to different contents."""
        event = adversary.next_event(state)
        self.assert_allowed(house, state, event)
        self.assertLessEqual(adversary.count, adversary.bound)
        if event[0] == "go":
            self.assert_beaten(house, after(state, event, None), adversary)
        else:
            seen = {}
            for channel in fitting_channels(state, event[1]):
                if state[channel] not in seen:
                    seen[state[channel]] = True
                    self.assert_beaten(house, after(state, event, channel), copy.deepcopy(adversary))

    def test_great_houses(self):
        draw = random.Random(26)
        played = 0
        while played < 150:
            limits = [draw.randint(1, 20) for _ in range(draw.randint(1, 5))]
            house = House(limits, channels=draw.randint(0, 24), wide_limit=draw.choice((0, 1, 3, 20)))
            state = drawn_state(house, draw, draw.randint(0, 90))
            if not is_safe(house, state):
                played += 1
                for pick in (lowest, highest, draw.choice):
                    self.play(house, state, pick)

    def test_greatest_house(self):
        house = House([20] * 5, channels=24)
        for pick in (lowest, highest, drawn(1)):
            self.play(house, tuple(empty_state(house)), pick)
            self.play(house, ((-1,),) * 20 + ((),) * 4, pick)

    def test_no_channels(self):
        for wide_limit in (0, 20):
            house = House([2, 1], channels=0, wide_limit=wide_limit)
            self.assertEqual(self.play(house, (), lowest), 1)

    def test_wide_limit_zero(self):
        house = House([3, 2], channels=2, wide_limit=0)
        for state in unsafe_states(house):
            self.play(house, state, lowest)

    def test_wide_calls_in_the_first_state(self):
        house = House([3, 3, 3], channels=4)
        for text in ("* * * .", "* . * .", "0 * . *", "012 * 012 .", ". 0 1 *"):
            for pick in (lowest, highest, drawn(5)):
                self.play(house, tuple(parse_state(text)), pick)
        greatest = House([20, 20], channels=24)
        self.play(greatest, ((-1,),) * 20 + ((),) * 4, highest)

    def test_two_adversaries_by_turns(self):
        house = House([3, 3], channels=3)
        states = [((), (), ()), ((0,), (1,), (-1,))]
        adversaries = [Adversary(house, state) for state in states]
        open_plays = [0, 1]
        for turn in range(2 * adversaries[0].bound):
            at = turn % 2
            if at in open_plays:
                event = adversaries[at].next_event(list(states[at]))
                self.assert_allowed(house, states[at], event)
                channels = fitting_channels(states[at], event[1]) if event[0] == "come" else [None]
                if not channels:
                    open_plays.remove(at)
                else:
                    states[at] = after(states[at], event, channels[at - 1])
        self.assertEqual(open_plays, [])

    def test_the_list_is_changed_between_two_calls(self):
        house = House([3, 2, 2], channels=3)
        for first in unsafe_states(house):
            shared = list(first)
            adversary = Adversary(house, shared)
            state = first
            while True:
                shared[:] = state
                event = adversary.next_event(shared)
                self.assertEqual(tuple(shared), state)
                shared.clear()
                self.assert_allowed(house, state, event)
                channels = fitting_channels(state, event[1]) if event[0] == "come" else [None]
                if not channels:
                    break
                state = after(state, event, channels[-1])
            self.assertLessEqual(adversary.count, adversary.bound)

    def test_states_as_tuples(self):
        house = House([2, 2], channels=2)
        for state in unsafe_states(house):
            adversary, other = Adversary(house, state), Adversary(house, list(state))
            while True:
                event = adversary.next_event(state)
                self.assert_allowed(house, state, event)
                self.assert_allowed(house, state, other.next_event(state))
                channels = fitting_channels(state, event[1]) if event[0] == "come" else [None]
                if not channels:
                    break
                state = after(state, event, channels[0])


class MakingTest(unittest.TestCase):
    def assert_safe(self, house, state, needed):
        with self.assertRaises(SafeState) as found:
            Adversary(house, state)
        self.assertEqual(found.exception.need, needed)

    def test_border_of_safety(self):
        for limits, needed in (([1], 1), ([3, 3], 4), ([3, 3, 3], 5), ([20, 1], 20), ([9, 9, 9, 1], 10)):
            house = House(limits, channels=needed)
            self.assert_safe(house, empty_state(house), needed)
            self.assert_safe(house, tuple(empty_state(house)), needed)
            smaller = house.changed(channels=needed - 1)
            self.assertEqual(Adversary(smaller, empty_state(smaller)).count, 0)

    def test_border_of_safety_with_calls(self):
        house = House([3, 3, 3], channels=6)
        self.assert_safe(house, parse_state("01 01 01 2 2 2"), 6)
        self.assertEqual(Adversary(house, parse_state("01 01 1 0 2 2")).level, 6)
        self.assert_safe(house.changed(channels=7), parse_state("01 01 1 0 2 2 ."), 7)
        self.assert_safe(house.changed(wide_limit=0), parse_state("01 01 1 0 2 2"), 6)

    def test_all_states_of_small_houses(self):
        for house in HOUSES:
            for state in all_kinds(house):
                if need(house, state) <= house.channels:
                    self.assert_safe(house, state, need(house, state))
                else:
                    Adversary(house, state)

    def numbers(self, house, text):
        adversary = Adversary(house, parse_state(text))
        return [adversary.level, adversary.crowd, adversary.bound, adversary.count]

    def test_numbers(self):
        self.assertEqual(self.numbers(House([3, 3, 3], channels=6), "01 01 1 0 2 2"), [6, 1, 24, 0])
        self.assertEqual(self.numbers(House([3, 3], channels=3), ". . ."), [3, 1, 18, 0])
        self.assertEqual(self.numbers(House([9, 9], channels=11), "0 * . . . . . . . . ."), [9, 3, 54, 0])
        self.assertEqual(self.numbers(House([2, 4], channels=4), "0 0 1 1"), [4, 1, 16, 0])

    def test_level_above_the_number_of_channels(self):
        self.assertEqual(self.numbers(House([4, 2], channels=3), ". 0 ."), [4, 0, 16, 0])
        self.assertEqual(self.numbers(House([9, 2], channels=3), ". * ."), [9, 0, 26, 0])
        self.assertEqual(self.numbers(House([4, 2], channels=3, wide_limit=0), ". . ."), [4, 0, 16, 0])
        self.assertEqual(self.numbers(House([3], channels=0), "none"), [3, 0, 12, 0])
        # One more than the channels is a crowd of 0, not yet below.
        self.assertEqual(self.numbers(House([1], channels=0), "none"), [1, 0, 4, 0])

    def test_argument_is_not_changed(self):
        state = parse_state("01 * 1 .")
        adversary = Adversary(House([3, 3, 3], channels=4), state)
        adversary.next_event(state)
        self.assertEqual(state, parse_state("01 * 1 ."))


if __name__ == "__main__":
    unittest.main()
