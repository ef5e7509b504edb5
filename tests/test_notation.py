import unittest

from tests.worlds import contents
from unmovedways.errors import InvalidText
from unmovedways.house import House
from unmovedways.notation import (
    house_text, parse_house, parse_record, parse_state, record_text, state_text,
)


class NotationCase(unittest.TestCase):
    def assert_invalid(self, parse, *texts):
        for text in texts:
            with self.subTest(text=text):
                with self.assertRaises(InvalidText) as found:
                    parse(text)
                self.assertEqual(found.exception.text, text)


class HouseTextTest(NotationCase):
    def assert_house(self, text, limits, channels, wide_limit):
        with self.subTest(text):
            house = House(limits, channels=channels, wide_limit=wide_limit)
            self.assertEqual(house_text(house), text)
            found = parse_house(text)
            self.assertIs(type(found), House)
            self.assertEqual([found.limits, found.channels, found.wide_limit], [tuple(limits), channels, wide_limit])

    def test_back_and_forth(self):
        self.assert_house("limits 3 3 2 channels 7 wides 20", [3, 3, 2], 7, 20)
        self.assert_house("limits 1 channels 0 wides 0", [1], 0, 0)
        self.assert_house("limits 20 20 20 20 20 channels 24 wides 20", [20] * 5, 24, 20)
        self.assert_house("limits 10 9 channels 10 wides 1", [10, 9], 10, 1)

    def test_each_limit(self):
        for limit in range(1, 21):
            self.assert_house(f"limits {limit} channels {limit} wides {limit}", [limit], limit, limit)

    def test_bounds(self):
        self.assert_invalid(
            parse_house,
            "limits 0 channels 7 wides 20", "limits 21 channels 7 wides 20",
            "limits 3 0 channels 7 wides 20", "limits 3 3 21 channels 7 wides 20",
            "limits 3 channels 25 wides 20", "limits 3 channels 7 wides 21",
            "limits channels 7 wides 20", "limits 1 1 1 1 1 1 channels 7 wides 20",
            "limits 3 channels 100 wides 20", "limits " + "9" * 880 + " channels 7 wides 20",
        )

    def test_numbers(self):
        self.assert_invalid(
            parse_house,
            "limits 03 channels 7 wides 20", "limits 3 channels 07 wides 20",
            "limits 3 channels 7 wides 00", "limits 3 channels 7 wides 020",
            "limits +3 channels 7 wides 20", "limits 3 channels +7 wides 20",
            "limits 3 channels 7 wides -0", "limits -1 channels 7 wides 20",
            "limits 3 channels -1 wides 20", "limits 3 channels 7 wides -1",
            "limits 3. channels 7 wides 20", "limits 3 channels x wides 20",
            "limits 1_0 channels 7 wides 20", "limits 3,3 channels 7 wides 20",
        )

    def test_words_and_spaces(self):
        self.assert_invalid(
            parse_house,
            "", " ", "\n", "limits", "limits 3", "limits 3 channels 7", "limits 3 channels 7 wides",
            " limits 3 channels 7 wides 20", "limits 3 channels 7 wides 20 ",
            "limits  3 channels 7 wides 20", "limits 3  channels 7 wides 20",
            "limits 3 channels  7 wides 20", "limits 3 channels 7  wides 20",
            "limits 3 channels 7 wides  20", "limits 3 channels 7 wides 20\n",
            "\nlimits 3 channels 7 wides 20", "limits 3\n3 channels 7 wides 20",
            "limits\t3 channels 7 wides 20", "limits 3 channels 7 wides\t20",
            "limits 3\t3 channels 7 wides 20",
            "Limits 3 channels 7 wides 20", "LIMITS 3 channels 7 wides 20",
            "limits 3 Channels 7 wides 20", "limits 3 channels 7 Wides 20",
            "limits 3 channels 7 wide 20", "limit 3 channels 7 wides 20",
            "limits 3 wides 20 channels 7", "channels 7 limits 3 wides 20",
            "3 channels 7 wides 20", "limits 3 channels 7 wides 20 20",
            "limits 3 channels 7 7 wides 20", "change limits 3 channels 7 wides 20", "none",
        )


class StateTextTest(NotationCase):
    def assert_state(self, text, state):
        with self.subTest(text):
            self.assertEqual(state_text(state), text)
            self.assertEqual(state_text(tuple(state)), text)
            found = parse_state(text)
            self.assertEqual(found, state)
            self.assertIs(type(found), list)
            for content in found:
                self.assertIs(type(content), tuple)

    def test_back_and_forth(self):
        self.assert_state(". * 0 02 134", [(), (-1,), (0,), (0, 2), (1, 3, 4)])
        self.assert_state("none", [])
        self.assert_state(".", [()])
        self.assert_state("*", [(-1,)])
        self.assert_state("01234 4 4", [(0, 1, 2, 3, 4), (4,), (4,)])

    def test_example_of_the_interface(self):
        state = parse_state(". * 0 02")
        self.assertEqual([state, state_text(state)], [[(), (-1,), (0,), (0, 2)], ". * 0 02"])
        self.assert_invalid(parse_state, "0  1")

    def test_each_content(self):
        for content in contents(5):
            self.assertEqual(parse_state(state_text([content, content])), [content, content])

    def test_number_of_contents(self):
        self.assert_state(" ".join(["0"] * 24), [(0,)] * 24)
        self.assert_invalid(parse_state, " ".join(["0"] * 25), " ".join(["."] * 25))

    def test_whether_a_state_is_valid_is_not_asked(self):
        self.assert_state(" ".join(["*"] * 24), [(-1,)] * 24)
        self.assert_state("0 " * 22 + "01234", [(0,)] * 22 + [(0, 1, 2, 3, 4)])

    def test_a_new_list_each_time(self):
        parse_state("none").append(())
        self.assertEqual(parse_state("none"), [])

    def test_digits(self):
        self.assert_invalid(
            parse_state,
            "5", "05", "9", "10", "210", "021", "00", "011", "0 0 22", "-1", "+0", "0.", ".0", "0*",
            "*0", "**", "..", ".*", "-", "0,1", "a", "x 0", "0 1x", "01234 012345", "()",
        )

    def test_words_and_spaces(self):
        self.assert_invalid(
            parse_state,
            "", " ", "  ", "\n", "\t", " 0", "0 ", "0  1", "0\t1", "0\n1", "0\n", "\n0", "0 \n",
            "None", "NONE", "none ", " none", "none none", "none .", ". none", "none\n", "free", "o",
        )


class RecordTextTest(NotationCase):
    def assert_record(self, text, record):
        with self.subTest(text):
            self.assertEqual(record_text(record), text)
            found = parse_record(text)
            self.assertEqual(found, record)
            self.assertIs(type(found), tuple)

    def test_back_and_forth(self):
        self.assert_record("come 2 5", ("come", 2, 5))
        self.assert_record("come * 5", ("come", -1, 5))
        self.assert_record("go 5 2", ("go", 5, 2))
        self.assert_record("go 5 *", ("go", 5, -1))
        self.assert_record("close 5", ("close", 5))
        self.assert_record("reopen 5", ("reopen", 5))
        record = ("change", (3, 3, 2), 7, 20)
        self.assert_record("change limits 3 3 2 channels 7 wides 20", record)
        self.assert_record("change limits 20 channels 0 wides 0", ("change", (20,), 0, 0))
        self.assert_record("change limits 1 channels 24 wides 20", ("change", (1,), 24, 20))
        self.assertIs(type(parse_record("change limits 1 channels 24 wides 20")[1]), tuple)

    def test_a_list_of_limits(self):
        self.assertEqual(record_text(("change", [3, 2], 7, 20)), "change limits 3 2 channels 7 wides 20")

    def test_each_channel_and_cell(self):
        for channel in range(24):
            self.assert_record(f"close {channel}", ("close", channel))
            self.assert_record(f"reopen {channel}", ("reopen", channel))
            for cell in range(5):
                self.assert_record(f"come {cell} {channel}", ("come", cell, channel))
                self.assert_record(f"go {channel} {cell}", ("go", channel, cell))

    def test_bounds(self):
        self.assert_invalid(
            parse_record,
            "come 0 24", "come 5 0", "come * 24", "go 24 0", "go 0 5", "go 24 *", "close 24",
            "reopen 24", "come 0 -1", "come -1 0", "go -1 0", "go 0 -1", "close -1", "reopen -1",
            "come 10 3", "go 3 10", "close 240", "come 0 " + "1" * 880,
        )

    def test_numbers(self):
        self.assert_invalid(
            parse_record,
            "come 02 5", "come 2 05", "come +2 5", "come 2 +5", "go 05 2", "go 5 02", "go 00 2",
            "close 05", "reopen 00", "come 2 *", "come * *", "go * 5", "go * *", "close *", "come . 5",
            "go 5 .", "come 12 5", "go 5 12", "come ** 5", "come x 5", "close x", "come 2 5x",
        )

    def test_words_and_spaces(self):
        self.assert_invalid(
            parse_record,
            "", " ", "\n", "\t", "come", "go", "close", "reopen", "change", "come 2", "go 5", "close 5 2",
            "reopen 5 2", "come 2 5 1", "go 5 2 1", " come 2 5", "come 2 5 ", "come  2 5", "come 2  5",
            "come 2 5\n", "\ncome 2 5", "come\t2 5", "come 2\t5", "come 2\n5", "go  5 2", "go 5  2",
            "close  5", "close 5 ", " close 5", "reopen 5\n", "Come 2 5", "COME 2 5", "Go 5 2",
            "Close 5", "Reopen 5", "Change limits 3 channels 7 wides 20", "opens 5", "2 5 come",
            "reopen", "limits 3 channels 7 wides 20", "5", "come ", "close ",
        )

    def test_changes(self):
        self.assert_invalid(
            parse_record,
            "change  limits 3 channels 7 wides 20", "change limits 3 channels 7 wides 20 ",
            "change limits 0 channels 7 wides 20", "change limits 21 channels 7 wides 20",
            "change limits 3 channels 25 wides 20", "change limits 3 channels 7 wides 21",
            "change limits channels 7 wides 20", "change limits 1 1 1 1 1 1 channels 7 wides 20",
            "change limits 3 channels 07 wides 20", "change limits 3  channels 7 wides 20",
            "change change limits 3 channels 7 wides 20", "change limits 3 channels 7 wides 20\n",
            "change\tlimits 3 channels 7 wides 20", "change ", "change none", "change 3 7 20",
        )


if __name__ == "__main__":
    unittest.main()
