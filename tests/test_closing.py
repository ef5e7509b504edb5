import random
import unittest
from functools import cache
from itertools import combinations

from tests.worlds import all_kinds, drawn_state, safe_kinds
from unmovedways.closing import closable, may_close, rest_house, rest_state
from unmovedways.errors import Unsafe
from unmovedways.house import House
from unmovedways.need import is_safe, need
from unmovedways.notation import parse_state

HOUSES = [
    House(limits, channels=channels, wide_limit=wide_limit)
    for limits in [(1,), (2,), (1, 2), (2, 2), (3, 3), (2, 1, 1), (2, 2, 2)]
    for channels in range(6)
    for wide_limit in (0, 1, 20)
]


@cache
def safe_states(limits, channels, wide_limit):
    return safe_kinds(House(limits, channels=channels, wide_limit=wide_limit))


def rest_is_safe(house, state, closed):
    """Point 34 by its meaning: calls can be given the other channels for ever."""
    rest = [content for channel, content in enumerate(state) if channel not in closed]
    return tuple(sorted(rest)) in safe_states(house.limits, len(rest), house.wide_limit)


def all_choices(channels):
    return [row for size in range(channels + 1) for row in combinations(range(channels), size)]


class RestTest(unittest.TestCase):
    def test_rest_house(self):
        house = House([3, 1], channels=5, wide_limit=2)
        for closed in ([], [4], (4,), [3, 0], [2, 4, 0, 1, 3]):
            rest = rest_house(house, closed)
            self.assertIs(type(rest), House)
            self.assertEqual([rest.limits, rest.channels, rest.wide_limit], [(3, 1), 5 - len(closed), 2])
        self.assertEqual(house.channels, 5)

    def test_rest_state(self):
        state = parse_state("0 . * 01 1")
        rests = {
            (): "0 . * 01 1", (0,): ". * 01 1", (4, 1): "0 * 01", (1, 4): "0 * 01", (3, 0, 2): ". 1",
            (4, 3, 2, 1, 0): "none", (0, 4, 1, 3, 2): "none",
        }
        for closed, text in rests.items():
            for given in (state, tuple(state)):
                for rows in (closed, list(closed)):
                    rest = rest_state(given, rows)
                    self.assertIs(type(rest), list)
                    self.assertEqual(rest, parse_state(text))
        self.assertEqual(state, parse_state("0 . * 01 1"))
        self.assertIsNot(rest_state(state, []), state)
        self.assertEqual(rest_state([], []), [])


class MayCloseTest(unittest.TestCase):
    def test_example_of_the_interface(self):
        house, state = House([3, 3], channels=5), parse_state("0 0 1 1 .")
        self.assertEqual([may_close(house, state, [4]), may_close(house, state, [0])], [False, True])
        self.assertIs(may_close(house, tuple(state), (0,)), True)

    def test_none_and_all(self):
        house = House([3, 3], channels=5)
        self.assertIs(may_close(house, parse_state("0 0 1 1 ."), []), True)
        self.assertIs(may_close(house, parse_state("0 0 1 1 ."), [0, 1, 2, 3, 4]), False)
        self.assertIs(may_close(house.changed(channels=4), parse_state("0 0 1 1"), []), False)
        self.assertIs(may_close(House([1], channels=0), [], []), False)

    def test_closed_channels_with_wide_calls(self):
        house = House([2, 2], channels=4)
        state = parse_state("* 0 . .")
        self.assertIs(may_close(house, state, [0]), True)
        self.assertIs(may_close(house, state, [0, 1]), False)
        self.assertIs(may_close(house.changed(channels=5), state + [()], [4, 0]), True)

    def test_need_of_the_rest_and_its_meaning(self):
        for house in HOUSES:
            for state in all_kinds(house):
                for closed in all_choices(house.channels):
                    turned = closed[1:] + closed[:1]
                    answer = may_close(house, list(state), list(turned))
                    rest = rest_state(state, closed)
                    self.assertIs(answer, need(rest_house(house, closed), rest) <= len(rest))
                    self.assertEqual(answer, rest_is_safe(house, state, closed))


class ClosableTest(unittest.TestCase):
    def assert_closable(self, house, state):
        """Checks the kind of the answer, and that it and all fewer channels may be closed."""
        answer = closable(house, list(state))
        self.assertIs(type(answer), list)
        self.assertEqual(answer, sorted(set(answer)))
        self.assertLessEqual(set(answer), set(range(house.channels)))
        self.assertIs(may_close(house, state, answer), True)
        for channel in answer:
            self.assertTrue(may_close(house, state, [other for other in answer if other != channel]))
        self.assertEqual(len(closable(house, tuple(state))), len(answer))
        return answer

    def test_as_many_as_possible(self):
        for house in HOUSES:
            for kinds in all_kinds(house):
                if is_safe(house, kinds):
                    for state in (kinds, kinds[::-1]):
                        answer = self.assert_closable(house, state)
                        choices = [row for row in all_choices(house.channels) if rest_is_safe(house, state, row)]
                        self.assertEqual(len(answer), max(len(row) for row in choices))
                        for size in range(len(answer)):
                            for fewer in combinations(answer, size):
                                self.assertTrue(may_close(house, state, fewer))

    def test_three_and_four_cells_where_the_lots_differ(self):
        draw = random.Random(35)
        tried = 0
        while tried < 60:
            house = House([draw.randint(1, 3) for _ in range(draw.randint(3, 4))], channels=draw.randint(4, 8))
            state = drawn_state(house, draw, draw.randint(5, 30))
            if is_safe(house, state):
                tried += 1
                answer = self.assert_closable(house, state)
                for row in combinations(range(house.channels), len(answer) + 1):
                    self.assertFalse(may_close(house, state, row))

    def test_great_houses(self):
        draw = random.Random(36)
        for limits in ([4] * 5, [6, 5, 4, 3, 2], [20], [12, 12]):
            house = House(limits, channels=24)
            for steps in (0, 20, 60):
                state = drawn_state(house, draw, steps)
                if is_safe(house, state):
                    self.assert_closable(house, state)

    def test_nothing_to_close(self):
        house = House([3, 3], channels=4)
        self.assertEqual(closable(house, parse_state(". . . .")), [])
        self.assertEqual(closable(house, parse_state("* . 01 .")), [])
        self.assertEqual(closable(House([1], channels=1), [()]), [])

    def test_channels_with_calls(self):
        house = House([3, 3], channels=5)
        self.assertEqual(len(closable(house, parse_state("0 0 1 1 ."))), 1)
        self.assertNotIn(4, closable(house, parse_state("0 0 1 1 .")))
        self.assertEqual(len(closable(House([2], channels=4), parse_state("* * . ."))), 2)

    def test_unsafe(self):
        for state in (parse_state("0 0 1 1"), tuple(parse_state("0 0 1 1"))):
            with self.assertRaises(Unsafe) as found:
                closable(House([3, 3], channels=4), state)
            self.assertEqual(found.exception.need, 5)
        for house in HOUSES:
            for state in all_kinds(house):
                if not is_safe(house, state):
                    with self.assertRaises(Unsafe) as found:
                        closable(house, state)
                    self.assertEqual(found.exception.need, need(house, state))

    def test_argument_is_not_changed(self):
        state = parse_state("0 0 1 1 .")
        closable(House([3, 3], channels=5), state).append(7)
        self.assertEqual(state, parse_state("0 0 1 1 ."))
        self.assertEqual(len(closable(House([3, 3], channels=5), state)), 1)


if __name__ == "__main__":
    unittest.main()
