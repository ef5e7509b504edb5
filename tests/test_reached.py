import random
import unittest
from itertools import combinations_with_replacement

from tests.worlds import (
    added, all_calls, all_kinds, contents, fitting_channels, is_valid, may_come, removed, safe_kinds, subsets,
)
from unmovedways.errors import TooLarge
from unmovedways.house import House
from unmovedways.need import is_safe
from unmovedways.notation import parse_state
from unmovedways.plays import check_play
from unmovedways.reached import check_reached, judge_rule, size_of
from unmovedways.rules import Rule, pack_rule, spread_rule
from unmovedways.states import empty_state

HOUSES = [
    House(limits, channels=channels, wide_limit=wide_limit)
    for limits in [(1,), (3,), (1, 2), (2, 2), (3, 3), (2, 1, 1), (2, 2, 2)]
    for channels in range(1, 5)
    for wide_limit in (0, 1, 20)
]


def drawn_rule(cells, draw):
    """A rule that is mostly full, with orders in any way."""
    rows = [[row for row in subsets(cells) if cell not in row] for cell in range(cells)]
    return Rule([draw.sample(row, max(0, len(row) - draw.choice((0, 0, 0, 1)))) for row in rows])


def picked(rule, state, where):
    order = [()] if where == -1 else rule.orders[where]
    return next((state.index(content) for content in order if content in state), -1)


def following(house, rule, state):
    """The kinds of all states that follow, None among them for a refusal."""
    after = [removed(state, *call) for call in all_calls(state)]
    for where in range(-1, len(house.limits)):
        if may_come(house, state, where):
            channel = picked(rule, state, where)
            after.append(None if channel == -1 else added(state, channel, where))
    return {None if row is None else tuple(sorted(row)) for row in after}


def searched(house, rule, state, safe):
    """Points 41, worked out without the package: all kinds, or the least number of records to an end."""
    first = tuple(sorted(state))
    if first not in safe:
        return 0
    seen, layer, number = {first}, {first}, 0
    while layer:
        number += 1
        after = set().union(*[following(house, rule, row) for row in layer])
        if None in after or not after <= safe:
            return number
        layer = after - seen
        seen |= after
    return sorted(seen)


class SizeTest(unittest.TestCase):
    def test_small_houses(self):
        for cells in (1, 2, 3):
            for channels in range(4):
                house = House([3] * cells, channels=channels)
                rows = combinations_with_replacement(contents(cells), channels)
                self.assertEqual(size_of(house), len(list(rows)))

    def test_other_numbers_do_not_matter(self):
        for limits, wide_limit in (([1, 1], 0), ([20, 3], 20)):
            self.assertEqual(size_of(House(limits, channels=3, wide_limit=wide_limit)), 35)

    def test_great_houses(self):
        self.assertEqual(size_of(House([1], channels=0)), 1)
        self.assertEqual(size_of(House([1] * 5, channels=0)), 1)
        self.assertEqual(size_of(House([1], channels=24)), 325)
        self.assertEqual(size_of(House([1] * 2, channels=9)), 715)
        self.assertEqual(size_of(House([1] * 2, channels=10)), 1001)
        self.assertEqual(size_of(House([1] * 3, channels=5)), 1287)
        self.assertEqual(size_of(House([1] * 4, channels=3)), 969)
        self.assertEqual(size_of(House([1] * 5, channels=24)), 4355031703297275)


class JudgeTest(unittest.TestCase):
    def assert_judged(self, house, rule, state, safe):
        """Checks the answer against a search, and returns its word."""
        expected = searched(house, rule, state, safe)
        answer = judge_rule(house, rule, list(state))
        self.assertEqual([type(answer), type(answer[1])], [tuple, list])
        word, rows = answer
        if word == "right":
            self.assertEqual(rows, expected)
            self.assertIs(check_reached(house, rule, list(state), rows), True)
        else:
            self.assertEqual([word, len(rows)], ["wrong", expected])
            self.assert_play(house, rule, tuple(state), rows)
        self.assertEqual(judge_rule(house, rule, tuple(state))[0], word)
        return word

    def assert_play(self, house, rule, state, records):
        """Checks that the play goes by the rule and that it ends as point 41 says, not before."""
        for record in records:
            self.assertIs(type(record), tuple)
            self.assertTrue(is_safe(house, state))
            if record[0] == "go":
                self.assertIn(record[1:], all_calls(state))
                state = removed(state, *record[1:])
            else:
                self.assertEqual(record[0], "come")
                self.assertTrue(may_come(house, state, record[1]))
                self.assertEqual(record[2], picked(rule, state, record[1]))
                if record[2] == -1:
                    self.assertIs(record, records[-1])
                    return
                state = added(state, record[2], record[1])
        self.assertFalse(is_safe(house, state))

    def test_example_of_the_interface(self):
        answer = judge_rule(House([1], channels=2), pack_rule(1), [(), ()])
        self.assertEqual(answer, ("right", [((), ()), ((), (-1,)), ((), (0,))]))

    def test_from_the_empty_state(self):
        draw = random.Random(41)
        words = []
        for house in HOUSES:
            safe = safe_kinds(house)
            rules = [pack_rule(house.cells), spread_rule(house.cells)]
            for rule in rules + [drawn_rule(house.cells, draw) for _ in range(6)]:
                words.append(self.assert_judged(house, rule, empty_state(house), safe))
        self.assertGreater(min(words.count("right"), words.count("wrong")), 50)

    def test_from_other_states(self):
        draw = random.Random(42)
        words = []
        for house in HOUSES:
            safe, every = safe_kinds(house), all_kinds(house)
            for _ in range(8):
                state = draw.choice(sorted(safe) if safe and draw.random() < 0.8 else every)
                rule = drawn_rule(house.cells, draw)
                words.append(self.assert_judged(house, rule, draw.sample(state, len(state)), safe))
        self.assertGreater(min(words.count("right"), words.count("wrong")), 50)

    def test_a_state_that_is_not_safe(self):
        house = House([3, 3], channels=4)
        for state in (parse_state("0 0 1 1"), tuple(parse_state("0 0 1 1"))):
            self.assertEqual(judge_rule(house, pack_rule(2), state), ("wrong", []))
        self.assertEqual(judge_rule(House([1], channels=0), pack_rule(1), []), ("wrong", []))
        answers = [judge_rule(House([1], channels=0), pack_rule(1), [])[1] for _ in range(2)]
        self.assertIsNot(answers[0], answers[1])

    def test_an_end_by_a_state_that_is_not_safe(self):
        house = House([3, 3], channels=4)
        word, records = judge_rule(house, spread_rule(2), [()] * 4)
        self.assertEqual([word, len(records), check_play(house, [()] * 4, records)], ["wrong", 4, -1])
        self.assert_play(house, spread_rule(2), ((),) * 4, records)
        self.assertNotIn(-1, [record[2] for record in records])

    def test_an_end_by_a_refusal_although_a_channel_fits(self):
        house = House([3, 3], channels=6)
        rule = Rule([[()], [(0,)]])
        word, records = judge_rule(house, rule, empty_state(house))
        self.assertEqual([word, records], ["wrong", [("come", 1, -1)]])
        self.assertEqual(check_play(house, empty_state(house), records), 0)
        # Three calls of cell 1 and two of cell 0 take the five channels; cell 0 would have to join cell 1.
        house, rule = House([3, 3], channels=5), Rule([[()], [(), (0,)]])
        word, records = judge_rule(house, rule, empty_state(house))
        self.assertEqual([word, len(records), records[-1]], ["wrong", 6, ("come", 0, -1)])
        self.assertEqual(check_play(house, empty_state(house), records), 5)

    def test_refusals_in_the_middle(self):
        house = House([2, 2], channels=3)
        rule = Rule([[(1,), ()], [()]])
        safe = safe_kinds(house)
        for state in sorted(safe):
            self.assert_judged(house, rule, state[::-1], safe)

    def test_full_rules_end_by_a_state_that_is_not_safe(self):
        for house in HOUSES:
            for rule in (pack_rule(house.cells), spread_rule(house.cells)):
                for state in all_kinds(house)[::5]:
                    word, rows = judge_rule(house, rule, state)
                    if word == "wrong":
                        self.assertEqual(check_play(house, state, rows), -1)
                        self.assertTrue(all(row[0] == "go" or row[2] != -1 for row in rows))

    def test_house_at_the_bound(self):
        house = House([3] * 4, channels=3)
        answer = judge_rule(house, pack_rule(4), empty_state(house))
        self.assertEqual(answer[0], "wrong")
        house = house.changed(wide_limit=0)
        self.assert_judged(house, pack_rule(4), empty_state(house), set(all_kinds(house)))
        house = House([20], channels=24)
        self.assert_judged(house, pack_rule(1), empty_state(house), set(all_kinds(house)))

    def assert_too_large(self, house, state, size):
        for given in (list(state), tuple(state)):
            with self.assertRaises(TooLarge) as found:
                judge_rule(house, pack_rule(house.cells), given)
            self.assertEqual(found.exception.size, size)

    def test_too_large(self):
        house = House([5, 5], channels=10)
        self.assert_too_large(house, empty_state(house), 1001)
        judge_rule(house.changed(channels=9), pack_rule(2), [()] * 9)
        house = House([1, 1, 1], channels=5)
        self.assert_too_large(house, empty_state(house), 1287)
        judge_rule(house.changed(channels=4), pack_rule(3), [()] * 4)
        # The size comes first, even where the state is not safe.
        house = House([20, 20], channels=10)
        self.assert_too_large(house, empty_state(house), 1001)
        self.assertEqual(judge_rule(house.changed(channels=9), pack_rule(2), [()] * 9), ("wrong", []))

    def test_arguments_are_not_changed(self):
        house, state = House([2, 2], channels=3), parse_state("0 1 .")
        judge_rule(house, pack_rule(2), state)
        judge_rule(house, spread_rule(2), state)
        self.assertEqual(state, parse_state("0 1 ."))


class CheckReachedTest(unittest.TestCase):
    def setUp(self):
        self.house = House([2, 2], channels=3)
        self.rule = pack_rule(2)
        self.state = parse_state(". 0 .")
        self.reached = judge_rule(self.house, self.rule, self.state)[1]
        self.assertGreater(len(self.reached), 10)

    def assert_shown(self, reached, expected):
        for rows in (list(reached), tuple(reached)):
            for state in (self.state, tuple(self.state), self.state[::-1]):
                self.assertIs(check_reached(self.house, self.rule, state, rows), expected)

    def test_the_list_itself_in_any_order(self):
        self.assert_shown(self.reached, True)
        self.assert_shown(self.reached[::-1], True)
        self.assert_shown(self.reached[5:] + self.reached[:5], True)
        self.assert_shown(self.reached + self.reached[3:4], True)
        self.assert_shown(self.reached * 2, True)

    def test_one_member_left_out(self):
        for at in range(len(self.reached)):
            self.assert_shown(self.reached[:at] + self.reached[at + 1:], False)

    def test_without_the_kinds_of_the_state(self):
        self.assert_shown([], False)
        house = House([1], channels=2)
        rows = [((), ()), ((), (-1,)), ((), (0,))]
        self.assertIs(check_reached(house, pack_rule(1), [(), (0,)], rows), True)
        self.assertIs(check_reached(house, pack_rule(1), [(0,), ()], rows), True)
        self.assertIs(check_reached(house, pack_rule(1), [(), ()], rows[1:]), False)
        # Two states from which nothing leads on but to each other.
        wide = House([1, 1], channels=3, wide_limit=0)
        rows = judge_rule(wide, pack_rule(2), [()] * 3)[1]
        other = parse_state(". 0 1")
        self.assertNotIn(tuple(sorted(other)), rows)
        self.assertIs(check_reached(wide, pack_rule(2), other, rows), False)

    def test_a_member_too_much_that_is_not_valid(self):
        for member in (
            (), ((), ()), ((), (), (), ()), ((), (), (2,)), ((), (), (1, 0)), ((), (), (0, 0)), ((), (), (-2,)),
            ((), (-1, 0), ()), ((0,), (0,), (0,)), ((-1,), (-1,), (-1,)), ((-1,), (-1,), (1,)), ((9,), (), ()),
        ):
            self.assert_shown(self.reached + [member], False)
            self.assert_shown([member] + self.reached, False)
        house = self.house.changed(wide_limit=1)
        rows = judge_rule(house, self.rule, self.state)[1]
        self.assertIs(check_reached(house, self.rule, self.state, rows), True)
        self.assertIs(check_reached(house, self.rule, self.state, rows + [((), (-1,), (-1,))]), False)

    def test_a_member_too_much_that_is_not_safe(self):
        house = House([3, 3], channels=4)
        state = parse_state(". . . .")
        rows = judge_rule(house, self.rule, state)[1]
        self.assertIs(check_reached(house, self.rule, state, rows), True)
        unsafe = tuple(parse_state("0 0 1 1"))
        self.assertIs(check_reached(house, self.rule, state, rows + [unsafe]), False)
        every = all_kinds(house)
        self.assertIs(check_reached(house, self.rule, state, every), False)
        self.assertIs(check_reached(house, self.rule, unsafe, every), False)

    def test_a_member_too_much_that_is_safe(self):
        every = sorted(safe_kinds(self.house))
        self.assertGreater(len(every), len(self.reached))
        for member in every:
            shown = following(self.house, self.rule, member) <= {*self.reached, member}
            self.assert_shown(self.reached + [member], shown)

    def test_a_member_that_is_not_in_ascending_order(self):
        for at, member in enumerate(self.reached):
            turned = member[::-1]
            self.assert_shown(self.reached + [turned], True)
            if turned != member:
                # It is not the kinds of any state, so it cannot stand for the member.
                self.assert_shown(self.reached[:at] + [turned] + self.reached[at + 1:], False)
        # It is judged like any other member: what follows it must be there, too.
        more = sorted(row for row in safe_kinds(self.house) if row not in self.reached)
        for member in more:
            shown = following(self.house, self.rule, member) <= set(self.reached)
            self.assert_shown(self.reached + [member[::-1]], shown)
        self.assert_shown(self.reached + [((0,), (), (2,))], False)

    def test_wrong_rules(self):
        for house in HOUSES:
            safe = sorted(safe_kinds(house))
            for rule in (spread_rule(house.cells), Rule([[]] * house.cells)):
                for state in safe[::4]:
                    right = judge_rule(house, rule, state)[0] == "right"
                    if not right:
                        self.assertIs(check_reached(house, rule, state, safe), False)
                        self.assertIs(check_reached(house, rule, state, [state]), False)

    def test_drawn_lists(self):
        draw = random.Random(43)
        found = []
        for house in HOUSES[::2]:
            safe, every = safe_kinds(house), all_kinds(house)
            for _ in range(30):
                rule = drawn_rule(house.cells, draw)
                state = draw.choice(every)
                rows = sorted(safe)
                answer = judge_rule(house, rule, state)
                if answer[0] == "right" and draw.random() < 0.8:
                    rows = draw.sample(answer[1], len(answer[1]) - draw.choice((0, 0, 1)))
                expected = tuple(sorted(state)) in rows and all(
                    is_valid(house, row) and row in safe and following(house, rule, row) <= set(rows) for row in rows
                )
                found.append(check_reached(house, rule, state, rows))
                self.assertIs(found[-1], expected)
        self.assertGreater(min(found.count(True), found.count(False)), 50)

    def test_beyond_the_bound(self):
        house = House([2, 2], channels=12, wide_limit=1)
        self.assertGreater(size_of(house), 1000)
        state = tuple(empty_state(house))
        rows = searched(house, self.rule, state, set(all_kinds(house)))
        self.assertIs(check_reached(house, self.rule, state, rows), True)
        self.assertIs(check_reached(house, self.rule, state, rows[:-1]), False)
        house = House([2, 1, 1, 1], channels=6)
        rows = searched(house, pack_rule(4), [()] * 6, set(all_kinds(house)))
        self.assertIs(check_reached(house, pack_rule(4), [()] * 6, rows), True)
        self.assertIs(check_reached(house, pack_rule(4), [()] * 6, rows[1:]), False)

    def test_arguments_are_not_changed(self):
        rows = list(self.reached)
        check_reached(self.house, self.rule, self.state, rows)
        self.assertEqual([rows, self.state], [self.reached, parse_state(". 0 .")])


if __name__ == "__main__":
    unittest.main()
