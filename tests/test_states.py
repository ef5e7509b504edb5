import unittest

from tests.worlds import contents
from unmovedways.errors import InvalidState, OverLimit
from unmovedways.house import House
from unmovedways.states import Loads, call_loads, check_state, empty_state, kinds, loads, wide_count


class LoadsTest(unittest.TestCase):
    def test_keeps_a_copy(self):
        counts = [1, 2]
        row = Loads(counts)
        counts[0] = 5
        counts.append(3)
        self.assertEqual(row.counts, (1, 2))
        self.assertEqual(Loads((1, 2)).counts, (1, 2))

    def test_sum_and_difference(self):
        one, other = Loads([1, 5, 0]), Loads([2, 3, 4])
        self.assertIs(type(one + other), Loads)
        self.assertIs(type(one - other), Loads)
        self.assertEqual((one + other).counts, (3, 8, 4))
        self.assertEqual((one - other).counts, (-1, 2, -4))
        self.assertEqual((other - one).counts, (1, -2, 4))
        self.assertEqual([one.counts, other.counts], [(1, 5, 0), (2, 3, 4)])

    def test_numbers_below_zero(self):
        row = Loads([-3, 0])
        self.assertEqual((row + row).counts, (-6, 0))
        self.assertEqual((row - Loads([-5, 1])).counts, (2, -1))
        self.assertTrue(row.within([0, 0]))
        self.assertTrue(row.within([-3, 0]))
        self.assertFalse(row.within([-4, 0]))

    def test_index_length_and_iteration(self):
        row = Loads([4, -1, 6])
        self.assertEqual([row[0], row[1], row[2]], [4, -1, 6])
        self.assertEqual(len(row), 3)
        self.assertEqual(list(row), [4, -1, 6])
        self.assertEqual([*row], [4, -1, 6])

    def test_no_index_outside(self):
        for at in (-1, -3, 3):
            with self.subTest(at):
                with self.assertRaises(IndexError):
                    Loads([4, -1, 6])[at]

    def test_without_numbers(self):
        row = Loads([])
        self.assertEqual([row.counts, len(row), list(row)], [(), 0, []])
        self.assertEqual((row + Loads([])).counts, ())
        self.assertEqual((row - Loads([])).counts, ())
        self.assertIs(row.within([]), True)

    def test_within(self):
        row = Loads([2, 3])
        self.assertIs(row.within([2, 3]), True)
        self.assertIs(row.within((9, 3)), True)
        self.assertIs(row.within([1, 3]), False)
        self.assertIs(row.within([2, 2]), False)

    def test_loads_of_a_state(self):
        house = House([3, 3, 3], channels=6)
        state = [(), (-1,), (0,), (0, 2), (-1,), (2,)]
        self.assertIs(type(loads(house, state)), Loads)
        self.assertEqual(loads(house, state).counts, (4, 2, 4))
        self.assertEqual(loads(house, tuple(state)).counts, (4, 2, 4))
        self.assertEqual(loads(House([1], channels=0), []).counts, (0,))
        self.assertEqual(loads(House([3, 3], channels=1), [()]).counts, (0, 0))

    def test_call_loads(self):
        self.assertIs(type(call_loads(2, 0)), Loads)
        self.assertEqual(call_loads(3, 1).counts, (0, 1, 0))
        self.assertEqual(call_loads(3, 0).counts, (1, 0, 0))
        self.assertEqual(call_loads(3, 2).counts, (0, 0, 1))
        self.assertEqual(call_loads(3, -1).counts, (1, 1, 1))
        self.assertEqual(call_loads(1, 0).counts, (1,))
        self.assertEqual(call_loads(1, -1).counts, (1,))


class CheckStateTest(unittest.TestCase):
    def assert_state(self, house, state):
        for given in (list(state), tuple(state)):
            with self.subTest(state=given):
                self.assertIsNone(check_state(house, given))

    def assert_invalid(self, house, state, channel):
        for given in (list(state), tuple(state)):
            with self.subTest(state=given):
                with self.assertRaises(InvalidState) as found:
                    check_state(house, given)
                self.assertEqual(found.exception.channel, channel)

    def assert_over(self, house, state, where):
        for given in (list(state), tuple(state)):
            with self.subTest(state=given):
                with self.assertRaises(OverLimit) as found:
                    check_state(house, given)
                self.assertEqual(found.exception.where, where)

    def test_valid_states(self):
        self.assert_state(House([1], channels=0), [])
        self.assert_state(House([2, 3], channels=4), [(0,), (0, 1), (1,), (1,)])
        self.assert_state(House([2, 2], channels=2), [(-1,), (-1,)])
        for content in contents(4):
            self.assert_state(House([1, 1, 1, 1], channels=1), [content])

    def test_number_of_contents(self):
        house = House([3], channels=2)
        for state in ([], [()], [(), (), ()]):
            self.assert_invalid(house, state, -1)
        self.assert_invalid(House([3], channels=0), [()], -1)

    def test_wrong_contents(self):
        house = House([9, 9, 9], channels=3)
        wrong = [
            (0, 0), (1, 0), (0, 2, 1), (2, 2), (3,), (0, 3), (-2,), (-2, 0), (-1, 0), (-1, -1),
            (0, -1), (0, 1, 2, 3), (0, 1, 1), (-1, 0, 1, 2),
        ]
        for content in wrong:
            self.assert_invalid(house, [(), content, ()], 1)
            self.assert_invalid(house, [content, content, ()], 0)
            self.assert_invalid(house, [(0, 1, 2), (-1,), content], 2)

    def test_loads_at_and_above_the_limit(self):
        house = House([1, 2], channels=4)
        self.assert_state(house, [(0, 1), (1,), (), ()])
        self.assert_over(house, [(0,), (0,), (), ()], 0)
        self.assert_over(house, [(1,), (1,), (0, 1), ()], 1)
        self.assert_over(house, [(0, 1), (0, 1), (1,), (1,)], 0)
        self.assert_over(house, [(-1,), (0,), (), ()], 0)
        self.assert_over(House([4, 1], channels=2), [(-1,), (-1,)], 1)

    def test_wide_limit(self):
        house = House([5, 5], channels=3, wide_limit=2)
        self.assert_state(house, [(-1,), (-1,), ()])
        self.assert_over(house, [(-1,), (-1,), (-1,)], -1)
        self.assert_over(House([5], channels=1, wide_limit=0), [(-1,)], -1)

    def test_order_of_two_faults(self):
        house = House([1, 1], channels=3, wide_limit=0)
        self.assert_invalid(house, [(5,), (0, 0)], -1)
        self.assert_invalid(house, [(0,), (0,), (1, 0)], 2)
        self.assert_invalid(house, [(-1,), (7,), (6,)], 1)
        self.assert_over(house, [(-1,), (1,), ()], 1)
        self.assert_over(house, [(-1,), (-1,), ()], 0)
        self.assert_over(house, [(-1,), (), ()], -1)

    def test_does_not_change_its_argument(self):
        state = [(0,), ()]
        check_state(House([1], channels=2), state)
        self.assertEqual(state, [(0,), ()])


class KindsTest(unittest.TestCase):
    def test_empty_state(self):
        self.assertEqual(empty_state(House([3, 3], channels=3)), [(), (), ()])
        self.assertEqual(empty_state(House([3], channels=0)), [])
        self.assertIs(type(empty_state(House([3]))), list)
        self.assertIsNot(empty_state(House([3])), empty_state(House([3])))

    def test_wide_count(self):
        self.assertEqual(wide_count([]), 0)
        self.assertEqual(wide_count([(), (0,), (0, 1)]), 0)
        self.assertEqual(wide_count([(-1,), (0,), (-1,)]), 2)
        self.assertEqual(wide_count(((-1,), (0,))), 1)

    def test_kinds_in_ascending_order(self):
        state = [(2,), (0, 2), (), (-1,), (0,), (0, 1, 2), (0, 2)]
        expected = ((), (-1,), (0,), (0, 1, 2), (0, 2), (0, 2), (2,))
        self.assertEqual(kinds(state), expected)
        self.assertEqual(state[0], (2,))

    def test_kinds_of_channels_turned_about(self):
        state = [(0,), (), (0, 1), (-1,)]
        for turn in range(4):
            turned = state[turn:] + state[:turn]
            self.assertEqual(kinds(turned), ((), (-1,), (0,), (0, 1)))
            self.assertEqual(kinds(tuple(reversed(turned))), ((), (-1,), (0,), (0, 1)))
        self.assertNotEqual(kinds(state), kinds([(0,), (), (0, 1), ()]))

    def test_kinds_of_no_channels(self):
        self.assertEqual(kinds([]), ())
        self.assertEqual(kinds(()), ())


if __name__ == "__main__":
    unittest.main()
