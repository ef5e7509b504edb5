import random
import unittest

from tests.worlds import added, all_calls, all_kinds, drawn_state, fitting_channels, may_come, removed
from unmovedways.adversary import Adversary
from unmovedways.errors import SafeState
from unmovedways.house import House
from unmovedways.need import is_safe, need
from unmovedways.notation import parse_state
from unmovedways.plays import check_play, duel
from unmovedways.states import empty_state

HOUSES = [
    House(limits, channels=channels, wide_limit=wide_limit)
    for limits in [(2,), (1, 2), (2, 2), (2, 1, 1), (2, 2, 2)]
    for channels in range(4)
    for wide_limit in (0, 1, 20)
]


def unsafe_states(house):
    return [state for state in all_kinds(house) if not is_safe(house, state)]


def first_wrong(house, state, records):
    """Point 28, judged without the package."""
    over = False
    for index, record in enumerate(records):
        if over:
            return index
        if record[0] == "go":
            if record[1:] not in all_calls(state):
                return index
            state = removed(state, *record[1:])
        else:
            _, where, channel = record
            channels = fitting_channels(state, where)
            if not may_come(house, state, where) or channel not in (channels or [-1]):
                return index
            over = channel == -1
            state = state if over else added(state, channel, where)
    return -1


class DuelTest(unittest.TestCase):
    def assert_duel(self, house, state, wishes):
        """Checks that each channel is the wished one and that only the last call finds none."""
        records = duel(house, state, wishes)
        self.assertIs(type(records), list)
        self.assertLessEqual(len(records), Adversary(house, state).bound)
        present, left = tuple(state), list(wishes)
        for at, record in enumerate(records):
            self.assertIs(type(record), tuple)
            if record[0] == "go":
                self.assertIn(record[1:], all_calls(present))
                present = removed(present, *record[1:])
                continue
            kind, where, channel = record
            self.assertEqual(kind, "come")
            self.assertTrue(may_come(house, present, where))
            channels = fitting_channels(present, where)
            self.assertEqual(channel == -1, at == len(records) - 1)
            if channel == -1:
                self.assertEqual(channels, [])
            else:
                wish = left.pop(0) if left else 0
                self.assertEqual(channel, channels[wish % len(channels)])
                present = added(present, channel, where)
        self.assertEqual(records[-1][0::2], ("come", -1))
        self.assertEqual(check_play(house, state, records), -1)
        return records

    def test_wishes(self):
        for house in HOUSES:
            for state in unsafe_states(house):
                with self.subTest(house=vars(house), state=state):
                    for wishes in ([], [0] * 40, [1], [2, 3, 0, 5, 1], list(range(1000, 1040)), [10 ** 30] * 40):
                        self.assert_duel(house, list(state), wishes)

    def test_no_wishes_take_the_lowest_channel(self):
        for house in HOUSES:
            for state in unsafe_states(house):
                self.assertEqual(duel(house, state, []), duel(house, state, [0] * 100))

    def test_great_houses(self):
        draw = random.Random(27)
        played = 0
        while played < 60:
            limits = [draw.randint(1, 20) for _ in range(draw.randint(1, 5))]
            house = House(limits, channels=draw.randint(0, 24), wide_limit=draw.choice((0, 2, 20)))
            state = drawn_state(house, draw, draw.randint(0, 80))
            if not is_safe(house, state):
                played += 1
                self.assert_duel(house, state, [draw.randint(0, 99) for _ in range(draw.randint(0, 150))])

    def test_a_call_without_a_channel_at_once(self):
        self.assertEqual(len(self.assert_duel(House([2], channels=0), [], [])), 1)
        house = House([1, 1], channels=1)
        self.assertEqual(len(self.assert_duel(house.changed(limits=[2, 2]), parse_state("01"), [5])), 1)

    def test_lists_and_tuples(self):
        house = House([3, 3], channels=3)
        state, wishes = parse_state("0 1 *"), [2, 1, 0, 7]
        records = self.assert_duel(house, state, wishes)
        self.assertEqual(self.assert_duel(house, tuple(state), tuple(wishes)), records)
        self.assertEqual([state, wishes], [parse_state("0 1 *"), [2, 1, 0, 7]])

    def test_safe_states(self):
        for house in HOUSES:
            for state in all_kinds(house):
                if is_safe(house, state):
                    with self.assertRaises(SafeState) as found:
                        duel(house, state, [1, 2])
                    self.assertEqual(found.exception.need, need(house, state))
        with self.assertRaises(SafeState) as found:
            duel(House([3, 3], channels=9), empty_state(House([3, 3], channels=9)), [])
        self.assertEqual(found.exception.need, 4)


class CheckPlayTest(unittest.TestCase):
    def setUp(self):
        self.house = House([2, 2], channels=2, wide_limit=1)
        self.state = parse_state("0 .")
        # Cell 1 joins cell 0, a wide call comes and goes, and both cells fill up.
        self.good = [
            ("come", 1, 0), ("come", -1, 1), ("go", 1, -1), ("come", 1, 1), ("go", 0, 0), ("come", 0, 1),
        ]

    def assert_index(self, records, index, house=None, state=None):
        house = self.house if house is None else house
        state = self.state if state is None else state
        with self.subTest(records=records):
            for rows in (list(records), tuple(records)):
                self.assertEqual(check_play(house, list(state), rows), index)
                self.assertEqual(check_play(house, tuple(state), rows), index)
            self.assertEqual(first_wrong(house, tuple(state), records), index)

    def replaced(self, at, record):
        return self.good[:at] + [record] + self.good[at + 1:]

    def test_right_plays(self):
        for many in range(len(self.good) + 1):
            self.assert_index(self.good[:many], -1)
        self.assert_index([], -1, House([1], channels=0), [])

    def test_wrong_at_the_first_a_middle_and_the_last_index(self):
        wrong = {
            0: [("come", 0, 0), ("come", 1, 2), ("come", 1, -1), ("come", 1, -2), ("go", 1, 0), ("go", 0, 1),
                ("come", 1, 10 ** 20), ("come", 1, -10 ** 20), ("go", -1, 0), ("go", 2, 0), ("go", -2, 0)],
            3: [("come", 1, 0), ("come", 1, -1), ("come", 1, 2), ("come", -1, 0), ("go", 1, 1), ("go", 0, -1),
                ("go", 10 ** 20, 0), ("go", -10 ** 20, 0), ("come", -1, -2)],
            5: [("come", 0, 2), ("come", 0, -1), ("come", 0, -2), ("come", 1, 1), ("go", 0, 0), ("go", 1, -1),
                ("go", 2, 1), ("go", -1, 1), ("come", -1, 1)],
        }
        for at, rows in wrong.items():
            for record in rows:
                self.assert_index(self.replaced(at, record), at)

    def test_two_wrong_records(self):
        rows = self.replaced(1, ("come", -1, 0))
        rows[4] = ("go", 0, -1)
        self.assert_index(rows, 1)
        self.assert_index([("go", 5, 0), ("come", 0, 9)], 0)

    def test_events_that_are_not_allowed(self):
        full = parse_state("01 01")
        for where in (0, 1, -1):
            # The limits are reached, so even channel -1 is wrong.
            for channel in (-1, 0, 1):
                self.assert_index([("come", where, channel)], 0, state=full)
        house = House([3, 3], channels=2, wide_limit=1)
        self.assert_index([("come", -1, 1), ("come", -1, 0)], 1, house, parse_state(". ."))
        self.assert_index([("come", -1, 0)], 0, house.changed(wide_limit=0), parse_state(". ."))
        self.assert_index([("come", -1, -1)], 0, house.changed(wide_limit=0), parse_state(". ."))

    def test_no_channel(self):
        house = House([3, 3], channels=2)
        state = parse_state("0 0")
        self.assert_index([("come", 0, -1)], -1, house, state)
        self.assert_index([("come", -1, -1)], -1, house, state)
        self.assert_index([("come", 1, -1)], 0, house, state)
        self.assert_index([("come", 1, 0), ("come", 0, -1)], -1, house, state)
        self.assert_index([("come", 0, 0)], 0, house, state)
        self.assert_index([("come", 0, -2)], 0, house, state)
        self.assert_index([("come", 0, 2)], 0, house, state)

    def test_behind_a_record_without_channel(self):
        house = House([3, 3], channels=2)
        state = parse_state("0 0")
        for record in (("go", 0, 0), ("come", 1, 0), ("come", 0, -1), ("come", -1, -1), ("go", 9, 9)):
            self.assert_index([("come", 0, -1), record], 1, house, state)
            self.assert_index([("come", 1, 1), ("come", -1, -1), record, ("go", 1, 1)], 2, house, state)

    def test_calls_that_go_without_channel(self):
        self.assert_index([("go", -1, 0), ("come", 1, 0)], 0)
        self.assert_index([("go", 0, 0), ("go", -1, 0)], 1)
        self.assert_index([("go", 0, 0), ("go", 0, 0)], 1)
        self.assert_index([("go", 0, -1)], 0)
        self.assert_index([("go", 0, -1)], -1, state=parse_state("* ."))

    def drawn_records(self, house, state, draw):
        """Mostly right records, with a drawn one now and then."""
        records = []
        for _ in range(draw.randint(0, 12)):
            where = draw.randint(-1, house.cells - 1)
            channels = fitting_channels(state, where) or [-1]
            record = ("come", where, draw.choice(channels))
            if all_calls(state) and draw.random() < 0.4:
                record = ("go", *draw.choice(all_calls(state)))
            if draw.random() < 0.06:
                channel = draw.randint(-2, house.channels)
                record = draw.choice([("come", where, channel), ("go", channel, where)])
            records.append(record)
            if first_wrong(house, state, [record]) == -1 and record[2] != -1:
                state = added(state, record[2], where) if record[0] == "come" else removed(state, *record[1:])
        return records

    def test_drawn_plays(self):
        draw = random.Random(28)
        house = House([2, 3], channels=3, wide_limit=2)
        found = []
        for _ in range(3000):
            state = drawn_state(house, draw, draw.randint(0, 12))
            records = self.drawn_records(house, state, draw)
            found.append(check_play(house, state, records))
            self.assertEqual(found[-1], first_wrong(house, state, records))
        for index in range(-1, 8):
            self.assertIn(index, found)

    def test_arguments_are_not_changed(self):
        records = list(self.good)
        check_play(self.house, self.state, records)
        self.assertEqual([self.state, records], [parse_state("0 ."), self.good])


if __name__ == "__main__":
    unittest.main()
