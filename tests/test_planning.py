import unittest
from itertools import product

from tests.worlds import all_kinds, safe_kinds
from unmovedways.errors import InvalidHouse
from unmovedways.house import House
from unmovedways.need import bearing, is_safe, need
from unmovedways.notation import parse_state
from unmovedways.planning import (
    carefree_need, empty_need, greatest_limit, greatest_wide_limit, offers, room, zone,
)
from unmovedways.states import empty_state, loads

LIMITS = [(1,), (3,), (1, 2), (2, 2), (3, 3), (1, 1, 1), (2, 2, 1), (2, 2, 2)]
HOUSES = [
    House(limits, channels=channels, wide_limit=wide_limit)
    for limits in LIMITS for channels in range(6) for wide_limit in (0, 1, 20)
]


class NeedsTest(unittest.TestCase):
    def test_example_of_the_interface(self):
        house = House([3, 3], channels=4)
        answers = [empty_need([3, 3]), carefree_need([3, 3]), zone(house), room(house)]
        self.assertEqual(answers, [4, 5, "careful", 3])

    def test_empty_need(self):
        self.assertEqual(empty_need([1]), 1)
        self.assertEqual(empty_need([20]), 20)
        self.assertEqual(empty_need([3, 3, 3]), 5)
        self.assertEqual(empty_need((3, 3, 3)), 5)
        self.assertEqual(empty_need([3, 1]), 3)
        self.assertEqual([empty_need([4, 4], wide_limit=limit) for limit in (0, 1, 2, 20)], [4, 5, 6, 6])
        # The least limit bounds the wide calls.
        self.assertEqual(empty_need([9, 9, 9, 1]), 10)

    def test_empty_need_is_the_need_of_the_empty_house(self):
        for house in HOUSES:
            wanted = need(house, empty_state(house))
            self.assertEqual(empty_need(house.limits, wide_limit=house.wide_limit), wanted)

    def test_carefree_need(self):
        self.assertEqual(carefree_need([1]), 1)
        self.assertEqual(carefree_need([20]), 20)
        self.assertEqual(carefree_need((3, 3, 3)), 7)
        self.assertEqual([carefree_need([4, 3], wide_limit=limit) for limit in (0, 1, 20)], [4, 6, 6])
        self.assertEqual(carefree_need([4, 3, 3]), 8)

    def test_answers_above_24(self):
        self.assertEqual(empty_need([20] * 5), 36)
        self.assertEqual(empty_need([20] * 2), 30)
        self.assertEqual(carefree_need([20] * 5), 96)
        self.assertEqual(carefree_need([20] * 5, wide_limit=0), 20)
        self.assertEqual(empty_need([20] * 5, wide_limit=0), 20)

    def test_errors(self):
        for asked in (empty_need, carefree_need):
            for limits in ([], [1] * 6, [0], [21], [3, 0], [3, 21], [-1]):
                with self.subTest(asked=asked.__name__, limits=limits):
                    with self.assertRaises(InvalidHouse):
                        asked(limits)
            for wide_limit in (-1, 21):
                with self.subTest(asked=asked.__name__, wide_limit=wide_limit):
                    with self.assertRaises(InvalidHouse):
                        asked([3, 3], wide_limit=wide_limit)
            for limits in ([1], [20], [1] * 5, [20] * 5):
                self.assertGreaterEqual(asked(limits, wide_limit=0), 1)
                self.assertGreaterEqual(asked(limits, wide_limit=20), 1)

    def test_does_not_change_its_argument(self):
        limits = [3, 2]
        empty_need(limits)
        carefree_need(limits)
        self.assertEqual(limits, [3, 2])

    def test_carefree_need_makes_every_state_safe_and_fewer_do_not(self):
        for limits, wide_limit in product(LIMITS, (0, 1, 20)):
            enough = carefree_need(limits, wide_limit=wide_limit)
            for channels in range(min(enough + 2, 6)):
                house = House(limits, channels=channels, wide_limit=wide_limit)
                with self.subTest(limits=limits, channels=channels, wide=wide_limit):
                    carefree = safe_kinds(house) == set(all_kinds(house))
                    self.assertIs(carefree, channels >= enough)


class ZoneTest(unittest.TestCase):
    def zones(self, limits, *, wide_limit=20):
        rows = [House(limits, channels=channels, wide_limit=wide_limit) for channels in range(25)]
        return [zone(house) for house in rows]

    def assert_borders(self, limits, hopeless, careful, **named):
        wanted = ["hopeless"] * hopeless + ["careful"] * careful
        self.assertEqual(self.zones(limits, **named), wanted + ["carefree"] * (25 - len(wanted)))

    def test_borders(self):
        self.assert_borders([3, 3], 4, 1)
        self.assert_borders([3, 3, 3], 5, 2)
        self.assert_borders([4, 4], 6, 1)
        self.assert_borders([1], 1, 0)
        self.assert_borders([2, 2], 3, 0)
        self.assert_borders([5, 1], 5, 0)

    def test_wide_limits(self):
        self.assert_borders([3, 3, 3], 3, 0, wide_limit=0)
        self.assert_borders([4, 4], 4, 0, wide_limit=0)
        self.assert_borders([4, 4], 5, 2, wide_limit=1)

    def test_houses_that_are_hopeless_with_all_channels(self):
        self.assertEqual(set(self.zones([20] * 5)), {"hopeless"})
        self.assert_borders([20] * 5, 20, 0, wide_limit=0)

    def test_meaning(self):
        for house in HOUSES:
            safe, states = safe_kinds(house), set(all_kinds(house))
            wanted = "carefree" if safe == states else "careful"
            self.assertEqual(zone(house), wanted if safe else "hopeless")


class RoomTest(unittest.TestCase):
    def test_known_rooms(self):
        rooms = [room(House([3, 3, 3], channels=channels)) for channels in range(12)]
        self.assertEqual(rooms, [-1, -1, -1, -1, -1, 4, 5, 7, 8, 9, 9, 9])

    def test_hopeless(self):
        self.assertEqual(room(House([3, 3], channels=3)), -1)
        self.assertEqual(room(House([1], channels=0)), -1)
        self.assertEqual(room(House([20] * 5, channels=24)), -1)

    def test_wide_limit_zero(self):
        self.assertEqual(room(House([3, 3], channels=3, wide_limit=0)), 3)
        self.assertEqual(room(House([3, 3], channels=5, wide_limit=0)), 5)
        self.assertEqual(room(House([3, 3], channels=8, wide_limit=0)), 6)
        self.assertEqual(room(House([3, 3], channels=2, wide_limit=0)), -1)

    def test_as_many_bearing_channels_and_one_more(self):
        house = House([3, 3], channels=4)
        self.assertIs(is_safe(house, parse_state("0 0 01 .")), True)
        self.assertIs(is_safe(house, parse_state("0 0 0 1")), False)
        house = House([3, 3, 3], channels=6)
        self.assertEqual(room(house), 5)
        self.assertIs(is_safe(house, parse_state("01 01 1 0 2 .")), True)
        self.assertIs(is_safe(house, parse_state("01 01 1 0 2 2")), False)

    def test_meaning(self):
        for house in HOUSES:
            safe, found = safe_kinds(house), room(house)
            if not safe:
                self.assertEqual(found, -1)
                continue
            most = min(house.channels, house.total)
            self.assertLessEqual(found, most)
            for state in all_kinds(house):
                if bearing(state) <= found:
                    self.assertIn(state, safe)
            if found < most:
                more = [state for state in all_kinds(house) if bearing(state) == found + 1]
                self.assertFalse(safe.issuperset(more))


class GreatestTest(unittest.TestCase):
    def test_wide_limits(self):
        house = House([4, 4], channels=4)
        self.assertEqual(greatest_wide_limit(house, [()] * 4), 0)
        self.assertEqual(greatest_wide_limit(house.changed(channels=5), [()] * 5), 1)
        self.assertEqual(greatest_wide_limit(house.changed(channels=6), [()] * 6), 20)
        self.assertEqual(greatest_wide_limit(house.changed(channels=3), [()] * 3), -1)
        self.assertEqual(greatest_wide_limit(house.changed(channels=0), []), -1)

    def test_the_own_wide_limit_has_no_influence(self):
        for wide_limit in (0, 1, 20):
            house = House([4, 4], channels=5, wide_limit=wide_limit)
            self.assertEqual(greatest_wide_limit(house, ((),) * 5), 1)

    def test_less_than_the_wide_calls_that_stand(self):
        house = House([4, 4], channels=5)
        self.assertEqual(greatest_wide_limit(house, parse_state("* * . . .")), 1)
        self.assertEqual(greatest_wide_limit(house, parse_state("* * 0 0 1")), 1)
        self.assertEqual(greatest_wide_limit(House([2, 2], channels=2), parse_state("* *")), 0)

    def test_wide_limits_of_all_small_states(self):
        for house in HOUSES[::2]:
            for state in all_kinds(house):
                kept = [
                    limit for limit in range(21)
                    if need(house.changed(wide_limit=limit), state) <= house.channels
                ]
                self.assertEqual(greatest_wide_limit(house, state), max([-1, *kept]))

    def test_limits(self):
        self.assertEqual(greatest_limit(House([3, 3], channels=3), parse_state("0 0 0"), 1), 1)
        self.assertEqual(greatest_limit(House([3, 3], channels=2), parse_state("0 0"), 1), 0)
        self.assertEqual(greatest_limit(House([1], channels=24), [()] * 24, 0), 20)
        self.assertEqual(greatest_limit(House([1], channels=19), ((),) * 19, 0), 19)
        self.assertEqual(greatest_limit(House([1], channels=0), [], 0), 0)

    def test_limits_and_loads(self):
        house = House([3, 3], channels=4)
        self.assertEqual(greatest_limit(house, parse_state("01 01 01 ."), 0), 3)
        self.assertEqual(greatest_limit(house, parse_state("0 0 1 1"), 0), 2)
        # With the limit 1 it would be safe, but the load is 2.
        house = House([2, 4], channels=4)
        self.assertIs(is_safe(house.changed(limits=[1, 4]), parse_state("0 0 1 1")), True)
        self.assertIs(is_safe(house, parse_state("0 0 1 1")), False)
        self.assertEqual(greatest_limit(house, parse_state("0 0 1 1"), 0), 0)
        self.assertEqual(greatest_limit(house, parse_state("* * . ."), 0), 0)
        self.assertEqual(greatest_limit(house, parse_state("* . . ."), 0), 1)

    def test_limits_of_all_small_states(self):
        for house in HOUSES[::3]:
            for state in all_kinds(house):
                for cell in range(house.cells):
                    self.assertEqual(greatest_limit(house, state, cell), self.by_trying(house, state, cell))

    def by_trying(self, house, state, cell):
        best = 0
        for limit in range(1, 21):
            limits = [limit if at == cell else old for at, old in enumerate(house.limits)]
            if limit >= loads(house, state)[cell] and is_safe(house.changed(limits=limits), state):
                best = limit
        return best

    def test_the_house_stays(self):
        house, state = House([4, 4], channels=5), parse_state("0 0 1 . .")
        greatest_limit(house, state, 0)
        greatest_wide_limit(house, state)
        self.assertEqual([house.limits, house.wide_limit], [(4, 4), 20])
        self.assertEqual(state, parse_state("0 0 1 . ."))


class OffersTest(unittest.TestCase):
    def test_example_of_the_interface(self):
        self.assertEqual(offers(4, 2), [(4, 1), (3, 3)])

    def test_no_channels(self):
        for cells in (1, 2, 3):
            for wide_limit in (0, 1, 20):
                self.assertEqual(offers(0, cells, wide_limit=wide_limit), [])

    def test_one_cell(self):
        for channels in range(1, 11):
            for wide_limit in (0, 1, 20):
                self.assertEqual(offers(channels, 1, wide_limit=wide_limit), [(channels,)])

    def test_wide_limits(self):
        self.assertEqual(offers(4, 2, wide_limit=0), [(4, 4)])
        self.assertEqual(offers(5, 3, wide_limit=0), [(5, 5, 5)])
        self.assertEqual(offers(6, 2, wide_limit=1), [(6, 1), (5, 5)])
        self.assertEqual(offers(6, 2, wide_limit=2), [(6, 1), (5, 3), (4, 4)])

    def test_by_trying(self):
        for channels, cells, wide_limit in product((1, 2, 3, 5, 7, 10), (1, 2, 3), (0, 1, 2, 3, 20)):
            with self.subTest(channels=channels, cells=cells, wide=wide_limit):
                found = offers(channels, cells, wide_limit=wide_limit)
                self.assertEqual(found, self.by_trying(channels, cells, wide_limit))

    def by_trying(self, channels, cells, wide_limit):
        rows = product(range(11, 0, -1), repeat=cells)
        falling = [row for row in rows if list(row) == sorted(row, reverse=True)]
        return [row for row in falling if self.is_offer(row, channels, wide_limit)]

    def is_offer(self, row, channels, wide_limit):
        raised = [row[:at] + (row[at] + 1,) + row[at + 1:] for at in range(len(row))]
        needs = [empty_need(other, wide_limit=wide_limit) for other in raised]
        return empty_need(row, wide_limit=wide_limit) <= channels < min(needs)

    def test_kinds_of_the_answer(self):
        found = offers(7, 3)
        self.assertIs(type(found), list)
        self.assertEqual({type(row) for row in found}, {tuple})
        self.assertEqual(found, sorted(found, reverse=True))

    def test_somewhat_more_channels_raise_no_error(self):
        self.assertEqual(offers(24, 1), [(20,)])
        self.assertIn((16, 16), offers(24, 2))


if __name__ == "__main__":
    unittest.main()
