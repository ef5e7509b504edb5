import unittest

from tests.worlds import all_kinds, is_valid
from unmovedways.errors import ChannelTaken, NoSuchCall, OverLimit
from unmovedways.events import allowed, apply_record, fitting, with_call, without_call
from unmovedways.house import House
from unmovedways.notation import parse_state

HOUSES = [
    House((2,), channels=3),
    House((2, 1), channels=3, wide_limit=1),
    House((2, 2), channels=3, wide_limit=0),
    House((1, 2, 2), channels=2),
]


class AllowedTest(unittest.TestCase):
    def test_local_calls(self):
        house = House([2, 1], channels=4)
        state = parse_state("0 1 . .")
        self.assertIs(allowed(house, state, ("come", 0)), True)
        self.assertIs(allowed(house, state, ("come", 1)), False)
        self.assertIs(allowed(house, parse_state("0 0 . ."), ("come", 0)), False)
        self.assertIs(allowed(house, parse_state("0 * . ."), ("come", 0)), False)
        self.assertIs(allowed(house, parse_state("* . . ."), ("come", 0)), True)

    def test_a_call_may_be_allowed_and_fit_no_channel(self):
        house = House([3, 3], channels=1)
        self.assertIs(allowed(house, [(0,)], ("come", 0)), True)
        self.assertIs(allowed(house, [(0,)], ("come", -1)), True)
        self.assertIs(allowed(House([1], channels=0), [], ("come", 0)), True)

    def test_wide_calls_and_loads(self):
        house = House([2, 1], channels=4)
        self.assertIs(allowed(house, parse_state(". . . ."), ("come", -1)), True)
        self.assertIs(allowed(house, parse_state("0 . . ."), ("come", -1)), True)
        self.assertIs(allowed(house, parse_state("0 0 . ."), ("come", -1)), False)
        self.assertIs(allowed(house, parse_state("1 . . ."), ("come", -1)), False)
        self.assertIs(allowed(house, parse_state("* . . ."), ("come", -1)), False)

    def test_wide_limit(self):
        for wide_limit, answer in ((0, False), (1, False), (2, True), (20, True)):
            house = House([5, 5], channels=3, wide_limit=wide_limit)
            state = parse_state("* . .") if wide_limit else parse_state(". . .")
            with self.subTest(wide_limit):
                self.assertIs(allowed(house, state, ("come", -1)), answer)
                self.assertIs(allowed(house, state, ("come", 1)), True)

    def test_calls_that_go(self):
        house = House([2, 2, 2], channels=4)
        state = parse_state(". * 02 1")
        there = [(1, -1), (2, 0), (2, 2), (3, 1)]
        for channel in range(-2, 6):
            for where in range(-1, 3):
                with self.subTest(channel=channel, where=where):
                    answer = allowed(house, state, ("go", channel, where))
                    self.assertIs(answer, (channel, where) in there)

    def test_tuples(self):
        house = House([2], channels=2)
        self.assertIs(allowed(house, ((0,), ()), ("come", 0)), True)
        self.assertIs(allowed(house, ((0,), ()), ("go", 0, 0)), True)

    def test_allowed_is_what_leaves_the_state_valid(self):
        for house in HOUSES:
            roomy = house.changed(channels=house.channels + 1)
            for state in all_kinds(house):
                for where in range(-1, house.cells):
                    valid = is_valid(roomy, state + ((where,),))
                    self.assertIs(allowed(house, state, ("come", where)), valid)


class FittingTest(unittest.TestCase):
    def test_local_calls(self):
        state = parse_state("0 1 . * 01 2 .")
        self.assertEqual(fitting(state, 0), [1, 2, 5, 6])
        self.assertEqual(fitting(state, 1), [0, 2, 5, 6])
        self.assertEqual(fitting(state, 2), [0, 1, 2, 4, 6])

    def test_wide_calls(self):
        self.assertEqual(fitting(parse_state("0 1 . * 01 2 ."), -1), [2, 6])
        self.assertEqual(fitting(parse_state("0 *"), -1), [])
        self.assertEqual(fitting((), -1), [])

    def test_a_new_list(self):
        state = [(), ()]
        self.assertIs(type(fitting(tuple(state), 0)), list)
        fitting(state, 0).append(7)
        self.assertEqual(fitting(state, 0), [0, 1])


class WithCallTest(unittest.TestCase):
    def test_adds_a_call(self):
        state = parse_state(". 1 02 .")
        self.assertEqual(with_call(state, 0, 0), parse_state("0 1 02 ."))
        self.assertEqual(with_call(state, 1, 0), parse_state(". 01 02 ."))
        self.assertEqual(with_call(state, 1, 2), parse_state(". 12 02 ."))
        self.assertEqual(with_call(state, 2, 1), parse_state(". 1 012 ."))
        self.assertEqual(with_call(state, 3, -1), parse_state(". 1 02 *"))
        self.assertEqual(state, parse_state(". 1 02 ."))

    def test_returns_a_new_list(self):
        state = [(), ()]
        self.assertIs(type(with_call(tuple(state), 0, 0)), list)
        self.assertIsNot(with_call(state, 0, 0), state)

    def test_asks_for_no_limits(self):
        self.assertEqual(with_call(parse_state("0 0 ."), 2, 0), parse_state("0 0 0"))
        self.assertEqual(with_call(parse_state("* * ."), 2, -1), parse_state("* * *"))

    def test_errors(self):
        state = parse_state(". 0 *")
        wrong = [
            (-1, 0), (-3, 0), (3, 0), (9, -1), (-1, -1), (1, 0), (2, 0), (2, 1), (1, -1), (2, -1),
        ]
        for channel, where in wrong:
            with self.subTest(channel=channel, where=where):
                with self.assertRaises(ChannelTaken) as found:
                    with_call(state, channel, where)
                self.assertEqual(found.exception.channel, channel)
        self.assertEqual(state, parse_state(". 0 *"))
        with self.assertRaises(ChannelTaken):
            with_call([], 0, 0)


class WithoutCallTest(unittest.TestCase):
    def test_takes_a_call_away(self):
        state = parse_state("012 * 1 .")
        self.assertEqual(without_call(state, 0, 1), parse_state("02 * 1 ."))
        self.assertEqual(without_call(state, 0, 0), parse_state("12 * 1 ."))
        self.assertEqual(without_call(state, 1, -1), parse_state("012 . 1 ."))
        self.assertEqual(without_call(state, 2, 1), parse_state("012 * . ."))
        self.assertEqual(state, parse_state("012 * 1 ."))

    def test_returns_a_new_list(self):
        self.assertIs(type(without_call(((0,),), 0, 0)), list)

    def test_errors(self):
        state = parse_state("02 * .")
        wrong = [
            (-1, 0), (-3, 0), (-2, -1), (3, 0), (3, -1), (0, 1), (0, -1), (1, 0), (2, 0), (2, -1),
        ]
        for channel, where in wrong:
            with self.subTest(channel=channel, where=where):
                with self.assertRaises(NoSuchCall) as found:
                    without_call(state, channel, where)
                self.assertEqual([found.exception.channel, found.exception.where], [channel, where])
        self.assertEqual(state, parse_state("02 * ."))

    def test_takes_back_what_was_added(self):
        for house in HOUSES:
            for state in all_kinds(house):
                for where in range(-1, house.cells):
                    for channel in fitting(state, where):
                        added = with_call(state, channel, where)
                        self.assertEqual(without_call(added, channel, where), list(state))


class ApplyRecordTest(unittest.TestCase):
    def setUp(self):
        self.house = House([2, 1], channels=3, wide_limit=1)
        self.state = parse_state("01 . .")

    def test_records(self):
        after = apply_record(self.house, self.state, ("come", 0, 2))
        self.assertEqual(after, parse_state("01 . 0"))
        after = apply_record(self.house, tuple(self.state), ("go", 0, 0))
        self.assertEqual(after, parse_state("1 . ."))
        self.assertIs(type(after), list)
        after = apply_record(self.house, parse_state("0 . ."), ("come", -1, 1))
        self.assertEqual(after, parse_state("0 * ."))
        self.assertEqual(apply_record(self.house, after, ("go", 1, -1)), parse_state("0 . ."))
        self.assertEqual(self.state, parse_state("01 . ."))

    def assert_over(self, state, record):
        with self.assertRaises(OverLimit) as found:
            apply_record(self.house, state, record)
        self.assertEqual(found.exception.where, record[1])

    def test_over_limit(self):
        self.assert_over(self.state, ("come", 1, 1))
        self.assert_over(self.state, ("come", -1, 1))
        self.assert_over(parse_state("0 0 ."), ("come", 0, 2))

    def test_wide_limit(self):
        house = House([2, 2], channels=3, wide_limit=1)
        with self.assertRaises(OverLimit) as found:
            apply_record(house, parse_state("* . ."), ("come", -1, 1))
        self.assertEqual(found.exception.where, -1)

    def test_channel_taken(self):
        for record in (("come", 0, 0), ("come", 0, -1), ("come", 0, 3)):
            with self.assertRaises(ChannelTaken) as found:
                apply_record(self.house, self.state, record)
            self.assertEqual(found.exception.channel, record[2])

    def test_no_such_call(self):
        for record in (("go", 0, -1), ("go", 1, 0), ("go", -1, 0), ("go", 3, 1)):
            with self.assertRaises(NoSuchCall) as found:
                apply_record(self.house, self.state, record)
            self.assertEqual([found.exception.channel, found.exception.where], list(record[1:]))

    def test_wrong_in_two_ways(self):
        self.assert_over(self.state, ("come", 1, 0))
        self.assert_over(self.state, ("come", 1, 3))
        self.assert_over(self.state, ("come", -1, -1))


if __name__ == "__main__":
    unittest.main()
