import unittest

from unmovedways.errors import InvalidHouse
from unmovedways.house import House


def values_of(house):
    return [house.limits, house.channels, house.wide_limit]


class BoundsTest(unittest.TestCase):
    def assert_house(self, *args, **named):
        with self.subTest(args=args, named=named):
            self.assertIs(type(House(*args, **named)), House)

    def assert_none(self, *args, **named):
        with self.subTest(args=args, named=named):
            with self.assertRaises(InvalidHouse):
                House(*args, **named)

    def test_number_of_cells(self):
        for many in range(1, 6):
            self.assert_house([2] * many)
        for many in (0, 6, 7):
            self.assert_none([2] * many)

    def test_limits(self):
        for limit in (1, 2, 19, 20):
            self.assert_house([limit])
            self.assert_house([3, 3, 3, 3, limit])
        for limit in (-1, 0, 21, 22):
            self.assert_none([limit])
            self.assert_none([limit, 3])
            self.assert_none([3, 3, 3, 3, limit])

    def test_channels(self):
        for channels in (0, 1, 23, 24):
            self.assert_house([3], channels=channels)
        for channels in (-1, 25, 100):
            self.assert_none([3], channels=channels)

    def test_wide_limit(self):
        for wide_limit in (0, 1, 19, 20):
            self.assert_house([3], wide_limit=wide_limit)
        for wide_limit in (-1, 21, 100):
            self.assert_none([3], wide_limit=wide_limit)


class HouseTest(unittest.TestCase):
    def test_defaults(self):
        self.assertEqual(values_of(House([3, 2])), [(3, 2), 8, 20])

    def test_values(self):
        house = House([3, 1, 2], channels=5, wide_limit=2)
        self.assertEqual(values_of(house), [(3, 1, 2), 5, 2])

    def test_only_limits_are_passed_by_position(self):
        with self.assertRaises(TypeError):
            House([3, 1], 5)

    def test_a_tuple_instead_of_a_list(self):
        self.assertEqual(values_of(House((4, 5))), values_of(House([4, 5])))
        self.assertIs(type(House((4, 5)).limits), tuple)

    def test_keeps_a_copy(self):
        limits = [3, 2]
        house = House(limits)
        limits.append(9)
        limits[0] = 8
        self.assertEqual(house.limits, (3, 2))
        self.assertEqual(house.cells, 2)

    def test_numbers_that_follow(self):
        house = House([3, 5, 4, 5], channels=9, wide_limit=20)
        numbers = [house.cells, house.greatest, house.least, house.total, house.wide_bound]
        self.assertEqual(numbers, [4, 5, 3, 17, 3])
        house = House([20], wide_limit=20)
        numbers = [house.cells, house.greatest, house.least, house.total, house.wide_bound]
        self.assertEqual(numbers, [1, 20, 20, 20, 20])

    def test_wide_bound(self):
        bounds = [House([4, 3], wide_limit=limit).wide_bound for limit in (0, 2, 3, 4, 20)]
        self.assertEqual(bounds, [0, 2, 3, 3, 3])


class ChangedTest(unittest.TestCase):
    def setUp(self):
        self.house = House([3, 2], channels=5, wide_limit=1)

    def test_nothing_passed(self):
        self.assertEqual(values_of(self.house.changed()), [(3, 2), 5, 1])
        self.assertIsNot(self.house.changed(), self.house)

    def test_none_stands_for_the_old_value(self):
        same = self.house.changed(limits=None, channels=None, wide_limit=None)
        self.assertEqual(values_of(same), [(3, 2), 5, 1])

    def test_each_value_alone(self):
        self.assertEqual(values_of(self.house.changed(limits=[7])), [(7,), 5, 1])
        self.assertEqual(values_of(self.house.changed(limits=(7, 1, 1))), [(7, 1, 1), 5, 1])
        self.assertEqual(values_of(self.house.changed(channels=0)), [(3, 2), 0, 1])
        self.assertEqual(values_of(self.house.changed(wide_limit=0)), [(3, 2), 5, 0])

    def test_all_values(self):
        house = self.house.changed(limits=[1], channels=24, wide_limit=20)
        self.assertEqual(values_of(house), [(1,), 24, 20])

    def test_the_old_house_stays(self):
        self.house.changed(limits=[1], channels=24, wide_limit=20)
        self.assertEqual(values_of(self.house), [(3, 2), 5, 1])

    def test_keeps_a_copy(self):
        limits = [4, 4]
        house = self.house.changed(limits=limits)
        limits[0] = 1
        self.assertEqual(house.limits, (4, 4))

    def test_values_that_are_no_house(self):
        wrong = [
            {"limits": []}, {"limits": [1] * 6}, {"limits": [0]}, {"limits": [3, 21]},
            {"channels": -1}, {"channels": 25}, {"wide_limit": -1}, {"wide_limit": 21},
            {"limits": [3], "channels": 5, "wide_limit": 21},
        ]
        for values in wrong:
            with self.subTest(values):
                with self.assertRaises(InvalidHouse):
                    self.house.changed(**values)
                self.assertEqual(values_of(self.house), [(3, 2), 5, 1])

    def test_only_by_keyword(self):
        with self.assertRaises(TypeError):
            self.house.changed([1])


if __name__ == "__main__":
    unittest.main()
