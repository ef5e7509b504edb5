import random
import unittest
from functools import cache
from itertools import combinations

from tests.worlds import all_calls, all_kinds, drawn_state, end_counts, move_counts, safe_kinds
from unmovedways.errors import ChannelTaken, Hopeless, NoSuchCall, NoWay
from unmovedways.events import without_call
from unmovedways.house import House
from unmovedways.mending import apply_moves, calls_to_end, moves_to_safety, pack_moves, way_moves
from unmovedways.need import bearing, is_safe, need
from unmovedways.notation import parse_state
from unmovedways.planning import empty_need
from unmovedways.states import check_state, empty_state

HOUSES = [
    House(limits, channels=channels, wide_limit=wide_limit)
    for limits in [(2,), (1, 2), (2, 2), (3, 3), (4, 1), (2, 1, 1), (2, 2, 2), (3, 2, 1)]
    for channels in range(1, 6)
    for wide_limit in (0, 1, 20)
]
LARGE_LIMITS = [((5, 5, 5), (8, 9, 10)), ((4, 3, 2, 2), (5, 6, 7)), ((3,) * 5, (5, 6, 7)), ((6, 2, 4, 1), (7, 8))]
LARGE_HOUSES = [
    House(limits, channels=channels, wide_limit=wide_limit)
    for limits, many in LARGE_LIMITS
    for channels in many
    for wide_limit in (1, 20)
]


@cache
def safe_states(limits, channels, wide_limit):
    return safe_kinds(House(limits, channels=channels, wide_limit=wide_limit))


def hopeless(house):
    return house.channels < empty_need(house.limits, wide_limit=house.wide_limit)


def without(state, calls):
    for channel, cell in calls:
        state = without_call(state, channel, cell)
    return state


class MendingTest(unittest.TestCase):
    def assert_calls(self, calls, state):
        """Checks the form of a list of local calls of the state."""
        self.assertIs(type(calls), list)
        self.assertEqual({type(call) for call in calls} - {tuple}, set())
        self.assertEqual(calls, sorted(set(calls)))
        self.assertLessEqual(set(calls), {call for call in all_calls(state) if call[1] >= 0})

    def assert_moves(self, moves, state):
        """Checks that each move is possible at its time, and returns the state after them."""
        self.assertIs(type(moves), list)
        self.assertEqual({(type(move), len(move)) for move in moves} - {(tuple, 3)}, set())
        after = apply_moves(state, moves)
        for cell in range(5):
            self.assertEqual(sum(cell in row for row in after), sum(cell in row for row in state))
        return after

    def assert_raises(self, kind, attributes, deed, *args):
        with self.subTest(args=args):
            with self.assertRaises(kind) as found:
                deed(*args)
            self.assertEqual(vars(found.exception), attributes)


class SafetyTest(MendingTest):
    def test_example_of_the_interface(self):
        house = House([3, 3], channels=4)
        state = parse_state("0 0 1 1")
        lengths = [len(calls_to_end(house, state)), len(moves_to_safety(house, state)), len(pack_moves(state, 2))]
        self.assertEqual(lengths, [1, 1, 2])

    def test_safe_states_need_nothing(self):
        house = House([3, 3, 3], channels=6)
        for state in (parse_state("01 01 01 2 2 2"), empty_state(house), parse_state("* 0 . . . .")):
            self.assertEqual([calls_to_end(house, state), moves_to_safety(house, state)], [[], []])
        self.assertIsNot(calls_to_end(house, state), calls_to_end(house, state))

    def test_hopeless_at_the_border(self):
        for limits, wide_limit in (((3, 3), 20), ((3, 3), 0), ((4, 2, 1), 1), ((1,), 20), ((5, 5, 5, 5, 5), 20)):
            least = empty_need(limits, wide_limit=wide_limit)
            house = House(limits, channels=least, wide_limit=wide_limit)
            for deed in (calls_to_end, moves_to_safety):
                self.assertEqual(deed(house, empty_state(house)), [])
                for channels in range(least):
                    poor = house.changed(channels=channels)
                    self.assert_raises(Hopeless, {"need": least}, deed, poor, empty_state(poor))
        poor = House([3, 3], channels=3)
        self.assert_raises(Hopeless, {"need": 4}, calls_to_end, poor, parse_state("0 1 *"))
        self.assert_raises(Hopeless, {"need": 4}, moves_to_safety, poor, parse_state("0 1 *"))

    def assert_mended(self, house, state, fewest):
        """Checks the calls to end and the moves to safety of a state."""
        calls = calls_to_end(house, state)
        self.assert_calls(calls, state)
        self.assertEqual(len(calls), fewest)
        self.assertTrue(is_safe(house, without(state, calls)))
        moves = moves_to_safety(house, state)
        self.assertEqual(len(moves), fewest)
        after = self.assert_moves(moves, state)
        check_state(house, after)
        self.assertTrue(is_safe(house, after))

    def test_all_states_of_small_houses(self):
        # Wide calls among them, and wide limits of 0.
        for house in HOUSES:
            states = all_kinds(house)
            safe = safe_states(house.limits, house.channels, house.wide_limit)
            calls, moves = end_counts(states, safe), move_counts(states, safe)
            for state in states:
                with self.subTest(house=vars(house), state=state):
                    if hopeless(house):
                        least = need(house, empty_state(house))
                        self.assert_raises(Hopeless, {"need": least}, calls_to_end, house, state)
                        self.assert_raises(Hopeless, {"need": least}, moves_to_safety, house, state)
                    else:
                        self.assertEqual(calls[state], moves[state])
                        self.assert_mended(house, state, calls[state])

    def assert_fewest(self, house, state):
        """Checks the answers for a state by trying all choices of fewer calls, and returns how many are to end."""
        calls = calls_to_end(house, state)
        self.assert_mended(house, state, len(calls))
        every = [call for call in all_calls(state) if call[1] >= 0]
        for fewer in combinations(every, len(calls) - 1) if 0 < len(calls) < 5 else []:
            self.assertFalse(is_safe(house, without(state, fewer)))
        return len(calls)

    def test_drawn_states_of_more_cells(self):
        draw = random.Random(44)
        lengths = set()
        for house in LARGE_HOUSES:
            for _ in range(12):
                lengths.add(self.assert_fewest(house, drawn_state(house, draw, 60)))
        self.assertLessEqual({0, 1, 2, 3, 4}, lengths)

    def test_channels_that_lose_some_or_all_of_their_calls(self):
        for limits, wide_limit, text, many in (
            ((5, 5, 4, 4), 1, "12 1 02 3 2 2", 1), ((6, 5, 4, 4, 3), 1, "3 0 0 2 4 3 34", 1),
            ((3, 2, 3, 3, 1), 20, "04 03 03 13", 1), ((5, 1, 1, 3, 5), 1, "04 01 34 04 02 04", 1),
            ((2, 5, 6, 4), 20, "02 12 02 13 12 3 12 12", 2), ((6, 5, 2, 3), 20, "0 13 01 12 13 02 01 03", 2),
        ):
            state = parse_state(text)
            house = House(limits, channels=len(state), wide_limit=wide_limit)
            self.assertEqual(self.assert_fewest(house, state), many)

    def test_the_numbers_of_the_channels_do_not_matter(self):
        draw = random.Random(8)
        for house in LARGE_HOUSES:
            state = list(drawn_state(house, draw, 60))
            many = len(calls_to_end(house, state))
            for _ in range(3):
                draw.shuffle(state)
                self.assert_mended(house, state, many)

    def test_tuples_and_what_was_passed(self):
        house = House([3, 3], channels=4)
        state = parse_state("0 0 1 1")
        for deed in (calls_to_end, moves_to_safety):
            self.assertEqual(len(deed(house, tuple(state))), 1)
            self.assertEqual(len(deed(house, state)), 1)
        self.assertEqual(state, parse_state("0 0 1 1"))


class ApplyTest(MendingTest):
    def test_no_moves(self):
        state = parse_state("0 * .")
        for given in (state, tuple(state)):
            after = apply_moves(given, [])
            self.assertIs(type(after), list)
            self.assertEqual(after, state)
            self.assertIsNot(after, given)
        self.assertEqual(apply_moves([], []), [])

    def test_moves_that_rest_on_each_other(self):
        state = parse_state("01 0 * .")
        for moves, text in (
            ([(0, 0, 3)], "1 0 * 0"), ([(0, 0, 3), (0, 1, 0)], "01 . * 0"),
            ([(1, 0, 1), (1, 1, 3), (0, 1, 3)], "0 . * 01"), ([(0, 0, 3), (0, 3, 0)], "01 0 * ."),
            ([(0, 1, 3), (0, 0, 1), (1, 0, 1)], ". 01 * 0"),
        ):
            for given in (moves, tuple(moves), [list(move) for move in moves]):
                self.assertEqual(apply_moves(state, given), parse_state(text))
                self.assertEqual(apply_moves(tuple(state), given), parse_state(text))
        self.assertEqual(state, parse_state("01 0 * ."))

    def test_no_such_call(self):
        state = parse_state("01 0 * .")
        for source, cell in ((-1, 0), (4, 0), (-4, 0), (9, 1), (1, 1), (3, 0), (2, 0), (2, 1), (0, 2), (0, 4)):
            attributes = {"channel": source, "where": cell}
            self.assert_raises(NoSuchCall, attributes, apply_moves, state, [(cell, source, 3)])
            # The source comes before the target.
            for target in (2, -1, 4, source):
                self.assert_raises(NoSuchCall, attributes, apply_moves, state, [(cell, source, target)])
        attributes = {"channel": 0, "where": 0}
        self.assert_raises(NoSuchCall, attributes, apply_moves, state, [(0, 0, 3), (0, 0, 3)])
        self.assert_raises(NoSuchCall, attributes, apply_moves, state, [(0, 0, 3), (0, 0, 9)])

    def test_channel_taken(self):
        state = parse_state("01 0 * 1 .")
        for cell, source, target in (
            (0, 0, -1), (0, 0, 5), (0, 0, -5), (0, 0, 2), (0, 0, 1), (0, 0, 0), (1, 0, 3), (1, 3, 3), (1, 3, 0),
        ):
            self.assert_raises(ChannelTaken, {"channel": target}, apply_moves, state, [(cell, source, target)])
        self.assert_raises(ChannelTaken, {"channel": 4}, apply_moves, state, [(0, 1, 4), (0, 0, 4)])
        self.assertEqual(state, parse_state("01 0 * 1 ."))

    def test_the_first_wrong_move(self):
        state = parse_state("01 0 .")
        self.assert_raises(ChannelTaken, {"channel": 1}, apply_moves, state, [(1, 0, 2), (0, 0, 1), (3, 0, 1)])
        self.assert_raises(NoSuchCall, {"channel": 1, "where": 3}, apply_moves, state, [(3, 1, 1), (0, 0, 1)])


def sizes(state):
    return sorted(len(content) for content in state if content not in ((), (-1,)))


class PackTest(MendingTest):
    def assert_packed(self, state, most, fewest):
        """Checks the moves to so few bearing channels, or the error if no moves lead there (fewest is None)."""
        if fewest is None:
            self.assert_raises(NoWay, {"most": most}, pack_moves, state, most)
            return
        moves = pack_moves(state, most)
        self.assertLessEqual(bearing(self.assert_moves(moves, state)), most)
        self.assertEqual(len(moves), fewest)
        self.assertEqual(fewest, sum(sizes(state)[:max(0, bearing(state) - most)]))

    def test_all_states_of_small_houses(self):
        for house in HOUSES:
            if house.wide_limit == 20:
                states = all_kinds(house)
                for most in range(house.channels + 2):
                    counts = move_counts(states, {state for state in states if bearing(state) <= most})
                    for state in states:
                        self.assert_packed(state, most, counts.get(state))

    def test_drawn_states(self):
        draw = random.Random(47)
        for house in LARGE_HOUSES:
            state = list(drawn_state(house, draw, 60))
            fullest = max(sum(cell in row for row in state) for cell in range(house.cells))
            for most in (0, fullest - 1, fullest, bearing(state) - 1, bearing(state), bearing(state) + 1, 100):
                if most >= 0:
                    row = sizes(state)[:max(0, bearing(state) - most)]
                    for _ in range(2):
                        self.assert_packed(state, most, sum(row) if most >= fullest else None)
                        draw.shuffle(state)

    def test_borders(self):
        state = parse_state("0 0 12 2 * .")
        for most, fewest in ((0, None), (1, None), (2, 2), (3, 1), (4, 0), (5, 0), (24, 0)):
            self.assert_packed(state, most, fewest)
            self.assert_packed(tuple(state), most, fewest)
        for text in ("none", ".", "* *", ". * ."):
            for most in (0, 1, 5):
                self.assert_packed(parse_state(text), most, 0)
        self.assert_packed(parse_state("01 2 3 4"), 1, 3)
        self.assert_packed(parse_state("01 2 3 4"), 0, None)
        self.assertEqual(state, parse_state("0 0 12 2 * ."))


class WayTest(MendingTest):
    def assert_way(self, state, fewest):
        if fewest is None:
            self.assert_raises(NoWay, {"most": 0}, way_moves, state)
            return
        moves = way_moves(state)
        self.assertIn((), self.assert_moves(moves, state))
        self.assertEqual(len(moves), fewest)

    def test_all_states_of_small_houses(self):
        for house in HOUSES:
            if house.wide_limit == 20:
                states = all_kinds(house)
                counts = move_counts(states, {state for state in states if () in state})
                for state in states:
                    self.assert_way(state, counts.get(state))
                    if () not in state and state in counts:
                        self.assertEqual(counts[state], sizes(state)[0])

    def test_borders(self):
        for text, fewest in (
            (".", 0), (". 0 0", 0), ("01 . 01", 0), ("none", None), ("*", None), ("* * *", None), ("0", None),
            ("0 0", None), ("0 * 0", None), ("0 01 *", None), ("0 1", 1), ("* 1 0 *", 1), ("01 2 02", 1),
            ("01 12 02", 2), ("012 34", 2), ("01 23 01 23", 2), ("01 23 01 0", 1), ("012 013 24", 2),
        ):
            with self.subTest(state=text):
                self.assert_way(parse_state(text), fewest)
                self.assert_way(tuple(parse_state(text)), fewest)
                self.assert_way(parse_state(text)[::-1], fewest)

    def test_an_allowed_wide_call_needs_few_moves(self):
        draw = random.Random(48)
        house = House([5, 5, 5, 5], channels=5)
        seen = set()
        for _ in range(400):
            state = drawn_state(house, draw, 40)
            if () not in state and all(sum(cell in row or row == (-1,) for row in state) < 5 for cell in range(4)):
                many = len(way_moves(state))
                self.assertIn(many, (1, 2, 3))
                seen.add(many)
        self.assertTrue(seen)

    def test_what_was_passed_stays(self):
        state = parse_state("01 12 02")
        way_moves(state)
        pack_moves(state, 2)
        self.assertEqual(state, parse_state("01 12 02"))


if __name__ == "__main__":
    unittest.main()
