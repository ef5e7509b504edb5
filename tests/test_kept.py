import unittest
from itertools import product

from tests.worlds import all_kinds, most_kept
from unmovedways.house import House
from unmovedways.kept import choose_kept
from unmovedways.need import lots, outside_count
from unmovedways.notation import parse_state


class ChooseKeptTest(unittest.TestCase):
    def assert_kept(self, state, rooms, many=None):
        """Checks all that point 24 says of an answer, and perhaps the number of pairs."""
        with self.subTest(state=state, rooms=rooms):
            answer = choose_kept(state, rooms)
            self.assertIs(type(answer), tuple)
            pairs, lot = answer
            self.assertEqual([type(pairs), type(lot)], [list, tuple])
            self.assertEqual(pairs, sorted(set(pairs)))
            self.assertEqual(len({channel for channel, _ in pairs}), len(pairs))
            for channel, cell in pairs:
                self.assertGreaterEqual(cell, 0)
                self.assertIn(cell, state[channel])
            used = [sum(cell == at for _, cell in pairs) for at in range(len(rooms))]
            self.assertTrue(all(count <= room for count, room in zip(used, rooms)))
            self.assertIn(lot, [(), *lots(len(rooms))])
            shown = sum(rooms[cell] for cell in lot) + outside_count(state, lot)
            self.assertEqual(len(pairs), shown)
            if many is not None:
                self.assertEqual(len(pairs), many)
            return answer

    def test_room_for_all(self):
        pairs, lot = self.assert_kept(parse_state("0 1 . * 2"), [1, 1, 1], 3)
        self.assertEqual(pairs, [(0, 0), (1, 1), (4, 2)])

    def test_empty_lot(self):
        self.assertEqual(self.assert_kept(parse_state("01 01 1"), [24, 24], 3)[1], ())
        self.assertEqual(self.assert_kept(parse_state("0 . *"), [1], 1)[1], ())

    def test_no_calls(self):
        self.assert_kept([], [3, 3], 0)
        self.assert_kept(parse_state(". * ."), [3, 3], 0)
        self.assert_kept([], [0], 0)

    def test_rooms_of_zero(self):
        self.assert_kept(parse_state("0 1 01"), [0, 0], 0)
        self.assert_kept(parse_state("0 1 01"), [0, 1], 1)
        self.assert_kept(parse_state("0 1 01"), [0, 2], 2)
        self.assertEqual(self.assert_kept(parse_state("0 0"), [0, 5], 0)[1], (0,))

    def test_calls_have_to_give_way(self):
        self.assert_kept(parse_state("01 0"), [1, 1], 2)
        self.assert_kept(parse_state("0 01 12 2"), [1, 1, 1], 3)
        self.assert_kept(parse_state("01 12 23 34 0"), [1, 1, 1, 1, 1], 5)
        self.assert_kept(parse_state("01234 0123 012 01 0"), [1, 1, 1, 1, 1], 5)

    def test_a_cell_holds_several(self):
        self.assert_kept(parse_state("0 0 0 01 01"), [2, 1], 3)
        self.assert_kept(parse_state("0 0 01 01 1 1"), [3, 3], 6)
        self.assert_kept(parse_state("012 " * 23 + "012"), [4, 5, 6], 15)
        self.assert_kept(parse_state("0 " * 23 + "0"), [24], 24)

    def test_tuples_and_arguments(self):
        state, rooms = parse_state("01 01 0"), [1, 1]
        self.assert_kept(tuple(state), tuple(rooms), 2)
        self.assert_kept(state, rooms, 2)
        self.assertEqual([state, rooms], [parse_state("01 01 0"), [1, 1]])

    def test_all_choices(self):
        for cells, channels, most in ((1, 3, 3), (2, 4, 3), (3, 3, 2), (4, 2, 2)):
            house = House([20] * cells, channels=channels)
            for state in all_kinds(house):
                for rooms in product(range(most), repeat=cells):
                    self.assert_kept(state, rooms, most_kept(state, rooms))


if __name__ == "__main__":
    unittest.main()
