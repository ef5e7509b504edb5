import random
import unittest

from tests.worlds import (
    added, all_calls, all_kinds, contents, drawn_state, fitting_channels, may_come, removed, subsets,
)
from unmovedways.errors import InvalidRule
from unmovedways.house import House
from unmovedways.need import bearing, level
from unmovedways.notation import parse_state
from unmovedways.rules import Rule, pack_rule, spread_rule


def others(cells, cell):
    """All non-empty sets of other cells, in ascending order."""
    return [row for row in sorted(subsets(cells)) if row and cell not in row]


class MakingTest(unittest.TestCase):
    def assert_invalid(self, orders, cell):
        for given in (orders, tuple(tuple(order) for order in orders)):
            with self.subTest(orders=given):
                with self.assertRaises(InvalidRule) as found:
                    Rule(given)
                self.assertEqual(found.exception.cell, cell)

    def test_orders(self):
        rule = Rule([[(1,), (), (1, 2)], [], [(0,)]])
        self.assertEqual(rule.orders, (((1,), (), (1, 2)), (), ((0,),)))
        self.assertEqual(Rule((((1,), ()), ((),))).orders, (((1,), ()), ((),)))
        self.assertEqual(Rule([((1,),), [()]]).orders, (((1,),), ((),)))
        self.assertEqual([type(rule.orders), type(rule.orders[0])], [tuple, tuple])
        self.assertEqual(Rule([[]]).orders, ((),))

    def test_lists_are_changed_afterwards(self):
        orders = [[(1,), ()], [(0,)]]
        rule = Rule(orders)
        orders[0].clear()
        orders[1].append(())
        orders.pop()
        self.assertEqual(rule.orders, (((1,), ()), ((0,),)))
        self.assertEqual(rule(parse_state("1 ."), 0), 0)

    def test_each_fault_in_each_cell(self):
        good = [[(1,), (1, 2), ()], [(0, 2), ()], [(), (0,), (1,)]]
        faults = {
            0: [(2, 1), (1, 1), (0,), (0, 1), (1,), (), (-1,), (-2,), (-1, 1), (3,), (1, 3), (1, 2, 2), (2, 1, 2)],
            1: [(2, 0), (2, 2), (1,), (0, 1, 2), (0, 2), (), (-1,), (-3,), (-1, 0), (3,), (0, 2, 4)],
            2: [(1, 0), (0, 0), (2,), (0, 2), (1,), (), (-1,), (-2, 0), (9,), (0, 1, 3)],
        }
        Rule(good)
        for cell, rows in faults.items():
            for content in rows:
                for at in (0, len(good[cell])):
                    orders = [list(order) for order in good]
                    orders[cell].insert(at, content)
                    self.assert_invalid(orders, cell)

    def test_lowest_cell_with_a_fault(self):
        self.assert_invalid([[()], [(0,), (0,)], [(2,)]], 1)
        self.assert_invalid([[(0,)], [(1,)]], 0)
        self.assert_invalid([[()], [()], [(1, 0)], [(3,)]], 2)
        self.assert_invalid([[(-1,)]], 0)
        self.assert_invalid([[(1,)]], 0)
        self.assert_invalid([[], [], [], [], [(4,)]], 4)
        self.assert_invalid([[(1,), (), (1,)], []], 0)


class CallTest(unittest.TestCase):
    def assert_pick(self, rule, text, where, expected):
        for state in (parse_state(text), tuple(parse_state(text))):
            self.assertEqual(rule(state, where), expected)

    def test_first_content_that_some_channel_has(self):
        rule = Rule([[(1, 2), (1,), (), (2,)], [(), (0,)], [(0, 1)]])
        self.assert_pick(rule, "1 2 12 . 12", 0, 2)
        self.assert_pick(rule, "2 1 . 1 .", 0, 1)
        self.assert_pick(rule, "2 * . 0 .", 0, 2)
        self.assert_pick(rule, "0 2 2 * 01", 0, 1)
        self.assert_pick(rule, "0 2 . .", 1, 2)
        self.assert_pick(rule, "2 0 0", 1, 1)
        self.assert_pick(rule, "0 01 01", 2, 1)

    def test_no_channel_with_a_content_of_the_order(self):
        rule = Rule([[(1, 2), (1,)], [], [(0, 1)]])
        self.assert_pick(rule, "2 . 0 * .", 0, -1)
        self.assert_pick(rule, ". . 0", 1, -1)
        self.assert_pick(rule, "0 1 . 012", 2, -1)

    def test_wide_calls(self):
        for rule in (Rule([[], []]), pack_rule(2), spread_rule(2)):
            self.assert_pick(rule, "0 * . 1 .", -1, 2)
            self.assert_pick(rule, "0 * 01 1", -1, -1)
            self.assert_pick(rule, "none", -1, -1)

    def test_no_channels(self):
        for where in (-1, 0, 1):
            self.assert_pick(pack_rule(2), "none", where, -1)

    def test_no_limits_are_asked(self):
        self.assert_pick(pack_rule(2), "0 0 0 0 0 .", 0, 5)
        self.assert_pick(spread_rule(1), "* * * * .", -1, 4)

    def test_argument_is_not_changed(self):
        state = parse_state("0 1 .")
        pack_rule(2)(state, 0)
        self.assertEqual(state, parse_state("0 1 ."))

    def test_every_state_of_small_houses(self):
        for rule in (pack_rule(2), spread_rule(2), Rule([[(1,)], [(), (0,)]])):
            for kinds in all_kinds(House([3, 3], channels=4)):
                for state in (kinds, kinds[::-1]):
                    for where in (-1, 0, 1):
                        order = [()] if where == -1 else rule.orders[where]
                        found = [state.index(content) for content in order if content in state]
                        self.assertEqual(rule(state, where), found[0] if found else -1)


class FullTest(unittest.TestCase):
    def test_pack_and_spread_rules(self):
        for cells in range(1, 6):
            pack, spread = pack_rule(cells), spread_rule(cells)
            self.assertEqual([type(pack), type(spread)], [Rule, Rule])
            self.assertEqual(pack.orders, tuple((*others(cells, cell), ()) for cell in range(cells)))
            self.assertEqual(spread.orders, tuple(((), *others(cells, cell)) for cell in range(cells)))
            self.assertIs(pack.is_full(), True)
            self.assertIs(spread.is_full(), True)

    def test_orders_of_three_cells(self):
        self.assertEqual(pack_rule(3).orders[1], ((0,), (0, 2), (2,), ()))
        self.assertEqual(spread_rule(3).orders[0], ((), (1,), (1, 2), (2,)))
        self.assertEqual(pack_rule(1).orders, (((),),))

    def test_one_content_left_out(self):
        for cells in range(1, 5):
            for cell in range(cells):
                for at in range(2 ** (cells - 1)):
                    orders = [list(order) for order in pack_rule(cells).orders]
                    del orders[cell][at]
                    self.assertIs(Rule(orders).is_full(), False)

    def test_other_full_rules(self):
        draw = random.Random(39)
        for cells in range(1, 6):
            orders = [draw.sample([(), *others(cells, cell)], 2 ** (cells - 1)) for cell in range(cells)]
            self.assertIs(Rule(orders).is_full(), True)
        self.assertIs(Rule([[]]).is_full(), False)
        self.assertIs(Rule([[()], [()]]).is_full(), False)
        self.assertIs(Rule([[(1,)], [(0,)]]).is_full(), False)

    def test_a_full_rule_takes_any_channel_that_fits(self):
        for rule in (pack_rule(2), spread_rule(2)):
            self.assertEqual(len(contents(2)), 5)
            for state in all_kinds(House([4, 4], channels=3)):
                for where in (-1, 0, 1):
                    self.assertEqual(rule(state, where) == -1, fitting_channels(state, where) == [])


class LevelTest(unittest.TestCase):
    """The last sentence of point 40."""

    def rules(self, cells, draw):
        packed = [draw.sample(others(cells, cell), 2 ** (cells - 1) - 1) + [()] for cell in range(cells)]
        return [pack_rule(cells), Rule(packed)]

    def test_the_level_is_never_passed(self):
        draw = random.Random(40)
        for limits in ([3], [2, 2], [3, 1], [2, 2, 2], [4, 3, 3, 2], [6, 6, 5, 4, 3]):
            house = House(limits, channels=draw.randint(6, 12))
            for rule in self.rules(len(limits), draw):
                for steps in (0, 10, 40):
                    self.run_of(house, rule, drawn_state(house, draw, steps), draw)

    def run_of(self, house, rule, state, draw):
        most = level(house, state)
        for _ in range(150):
            where = draw.randint(-1, house.cells - 1)
            if may_come(house, state, where):
                channel = rule(state, where)
                state = state if channel == -1 else added(state, channel, where)
            if all_calls(state) and draw.random() < 0.4:
                state = removed(state, *draw.choice(all_calls(state)))
            self.assertLessEqual(bearing(state), most)


if __name__ == "__main__":
    unittest.main()
