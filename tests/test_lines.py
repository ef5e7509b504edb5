import random
import unittest

from unmovedways.errors import BadLog
from unmovedways.lines import check_sum, read_lines, record_line

SIGNS = [chr(code) for code in range(32, 127)]
ZEROS = [("a~0~", "000"), ("b~0~", "001"), ("~abb", "009"), ("a~Za", "010"), ("bzza", "099")]


def told_sum(text):
    total = 0
    for position in range(1, len(text) + 1):
        total += position * ord(text[position - 1])
    return str(total % 997).zfill(3)


def log_of(*bodies):
    return "".join(f"{line} {body} {told_sum(f'{line} {body}')}\n" for line, body in enumerate(bodies))


def signed(text):
    """A line with a right check sum for whatever stands before it."""
    return f"{text} {told_sum(text)}\n"


class LineTest(unittest.TestCase):
    def test_example_of_the_interface(self):
        line = record_line(0, "take 0 0 0")
        self.assertEqual([line, read_lines(line + "1 dr")], ["0 take 0 0 0 305\n", (["take 0 0 0"], 17)])

    def test_check_sums(self):
        for text, wanted in (("", "000"), (" ", "032"), ("a", "097"), ("~", "126"), ("ab", "293"), ("~~~~", "263")):
            self.assertEqual(check_sum(text), wanted)
        self.assertEqual(check_sum("A" + " " * 41), told_sum("A" + " " * 41))
        draw = random.Random(59)
        for many in (1, 2, 3, 10, 100, 890, 5000):
            text = "".join(draw.choice(SIGNS) for _ in range(many))
            self.assertEqual([check_sum(text), len(check_sum(text))], [told_sum(text), 3])
        for text, wanted in ZEROS:
            self.assertEqual([told_sum(text), check_sum(text)], [wanted, wanted])
        # A line feed has the code 10.
        self.assertEqual(check_sum("\n"), "010")

    def test_record_lines(self):
        for line in (0, 9, 10, 99, 100, 1000, 123456):
            for body in ("a", "drop 7", " ", "  a  ", "12 345", "~", "x" * 800):
                self.assertEqual(record_line(line, body), signed(f"{line} {body}"))


class ReadTest(unittest.TestCase):
    def assert_bad(self, text, line):
        with self.subTest(text=text):
            with self.assertRaises(BadLog) as found:
                read_lines(text)
            self.assertEqual(vars(found.exception), {"line": line})

    def test_texts_without_a_whole_line(self):
        for text in ("", "0", "0 take 0 0 0 305", "nothing", " ", "9 9 9 999"):
            self.assertEqual(read_lines(text), ([], 0))

    def test_whole_lines(self):
        bodies = ["desk", " ", "  two  ends ", "0", "12 345", "~!", "a" * 700, "1 1 1 1", "305", "x y", "tenth", "11"]
        text = log_of(*bodies)
        self.assertEqual(text, "".join(record_line(line, body) for line, body in enumerate(bodies)))
        for rest in ("", "1", "12 ", "12 body", "12 body 000", "0 take 0 0 0 305", " "):
            found = read_lines(text + rest)
            self.assertEqual([type(found), type(found[0])], [tuple, list])
            self.assertEqual(found, (bodies, len(text)))

    def test_many_lines(self):
        bodies = [f"drop {number}" for number in range(1100)]
        self.assertEqual(read_lines(log_of(*bodies))[0], bodies)

    def test_all_single_signs_as_bodies(self):
        for sign in SIGNS:
            self.assertEqual(read_lines(record_line(0, sign)), ([sign], 8))

    def test_a_log_that_is_cut(self):
        text = log_of("one", "two and three", "4")
        ends = [at + 1 for at, sign in enumerate(text) if sign == "\n"]
        for at in range(len(text) + 1):
            whole = len([end for end in ends if end <= at])
            wanted = (["one", "two and three", "4"][:whole], ([0] + ends)[whole])
            self.assertEqual(read_lines(text[:at]), wanted)

    def test_wrong_lines(self):
        for row in (
            "\n", " \n", "0\n", "0 \n", signed("0 "), signed("0"), signed(""), signed(" "), signed("0 a ")[:-5] + "\n",
            signed("1 a"), signed("00 a"), signed("+0 a"), signed("-0 a"), signed(" 0 a"),
            signed("01 a"), signed("a"), signed("a b"), signed("0a"), "0 a\n", "0 a \n", "000\n", " 000\n",
            signed("0 a").replace("\n", " \n"), "0 a 0\n", "a 0 a 097\n",
        ):
            self.assert_bad(row, 0)
            self.assert_bad(row + log_of("a"), 0)

    def test_wrong_numbers_later(self):
        head = log_of("a", "b")
        for row in (
            signed("3 a"), signed("1 a"), signed("0 a"), signed("02 a"), signed("+2 a"), signed(" 2 a"), signed("-2 a"),
            signed("2 "), signed("2"), signed("22 a"), signed("2.0 a"), "\n", signed("two a"),
        ):
            self.assert_bad(head + row, 2)
            self.assert_bad(head + row + signed("3 x") + "no line\n", 2)
        self.assertEqual(read_lines(head + signed("2 a"))[0], ["a", "b", "a"])

    def test_check_sums_of_two_or_four_digits(self):
        draw = random.Random(60)
        for _ in range(300):
            body = "".join(draw.choice(SIGNS) for _ in range(draw.randint(1, 5)))
            row = record_line(0, body)
            total = row[-4:-1]
            for wrong in (total.lstrip("0"), "0" + total, total[:2], total[1:], total + "0", "+" + total[1:]):
                if wrong != total:
                    self.assert_bad(row[:-4] + wrong + "\n", 0)

    def test_lines_out_of_place(self):
        rows = [record_line(line, body) for line, body in enumerate(["a", "b", "a", "c", "d"])]
        self.assert_bad("".join([rows[1], rows[0], *rows[2:]]), 0)
        self.assert_bad("".join([rows[0], rows[2], rows[1], *rows[3:]]), 1)
        self.assert_bad("".join([*rows[:3], *rows[4:]]), 3)
        self.assert_bad("".join(rows[1:]), 0)
        self.assert_bad("".join([*rows[:3], rows[2], *rows[3:]]), 3)
        self.assert_bad("".join([rows[0], *rows]), 1)
        self.assertEqual(read_lines("".join(rows[:3]))[0], ["a", "b", "a"])

    def test_every_sign_of_every_line_replaced(self):
        draw = random.Random(61)
        for bodies in (["take 0 0 0", "drop 0"], ["desk  x", " ", "0 1 2", "~ ~", "aaaaaaaaaaaa"], ["b"] * 11):
            text = log_of(*bodies)
            for at, sign in enumerate(text):
                if sign != "\n":
                    others = [other for other in SIGNS if other != sign]
                    for other in others if len(bodies) == 2 else draw.sample(others, 12):
                        self.assert_bad(text[:at] + other + text[at + 1:], text[:at].count("\n"))

    def test_signs_replaced_in_a_long_line(self):
        draw = random.Random(62)
        text = record_line(0, "".join(draw.choice(SIGNS) for _ in range(890)))
        for _ in range(1500):
            at = draw.randrange(len(text) - 1)
            self.assert_bad(text[:at] + draw.choice([sign for sign in SIGNS if sign != text[at]]) + text[at + 1:], 0)


if __name__ == "__main__":
    unittest.main()
