import random
import unittest

from tests.test_desk import desk_of, seen
from tests.test_undo import busy_desk
from unmovedways.desk import Desk
from unmovedways.desklog import desk_log, open_desk
from unmovedways.errors import (
    BadLog, ChannelTaken, NoSuchCall, NoSuchChannel, NothingLeft, OverLimit, Unsafe,
)
from unmovedways.house import House
from unmovedways.lines import read_lines, record_line
from unmovedways.notation import parse_state

HEAD = "desk limits 3 3 channels 5 wides 20 state . . . . ."


def log_of(*bodies):
    return "".join(record_line(line, body) for line, body in enumerate(bodies))


def drawn_desk(draw, deeds):
    """A desk that drawn deeds were done at, undo and redo among them."""
    house = House([draw.randint(1, 4) for _ in range(draw.randint(1, 3))], channels=draw.randint(8, 12))
    state = [()] * house.channels
    for cell in range(house.cells):
        state[cell] = (cell,)
    desk = Desk(house, state)
    for _ in range(deeds):
        try_drawn_deed(desk, draw)
    return desk


def try_drawn_deed(desk, draw):
    try:
        drawn_deed(desk, draw)
    except (OverLimit, NoSuchCall, NoSuchChannel, Unsafe, ChannelTaken, NothingLeft):
        pass


def drawn_deed(desk, draw):
    channel, where = draw.randrange(desk.house.channels), draw.randrange(-1, desk.house.cells)
    kind = draw.choice(("come", "come", "come", "go", "go", "close", "reopen", "change", "undo", "redo"))
    if kind == "come":
        desk.come(where, wish=draw.randrange(20))
    elif kind == "go":
        channel, where = draw.choice([(at, cell) for at, row in enumerate(desk.state) for cell in row] or [(0, 0)])
        desk.go(channel, where)
    elif kind == "change":
        desk.change(channels=draw.randint(7, 13), wide_limit=draw.choice((None, 1, 20)))
    elif kind in ("undo", "redo"):
        getattr(desk, kind)(draw.randint(0, 3))
    else:
        getattr(desk, kind)(channel)


def all_grants(desk):
    """The grants of a desk for each place, or None where no call may come."""
    rows = []
    for where in range(-1, desk.house.cells):
        try:
            rows.append(desk.grants(where))
        except OverLimit:
            rows.append(None)
    return rows


class DeskLogTest(unittest.TestCase):
    def assert_bad(self, text, line):
        with self.subTest(text=text):
            with self.assertRaises(BadLog) as found:
                open_desk(text)
            self.assertEqual(vars(found.exception), {"line": line})

    def assert_same(self, desk, other):
        self.assertEqual(seen(desk), seen(other))
        self.assertEqual(desk_log(desk), desk_log(other))
        self.assertEqual(all_grants(desk), all_grants(other))


class WritingTest(DeskLogTest):
    def test_example_of_the_interface(self):
        desk = Desk(House([1], channels=1))
        desk.come(0)
        text = desk_log(desk)
        again = open_desk(text[:62])
        wanted = "0 desk limits 1 channels 1 wides 20 state . 761\n1 come 0 0 390\n"
        self.assertEqual([text, len(text), len(again), again.state], [wanted, 63, 0, [()]])

    def test_records_of_each_kind(self):
        desk, _ = busy_desk()
        self.assertEqual(desk_log(desk), log_of(
            "desk limits 3 3 channels 5 wides 20 state . 0 . . .", "come 1 1", "come * 0", "close 0",
            "change limits 3 3 channels 8 wides 2", "go 0 *", "come 0 " + str(list(desk)[5][2]), "reopen 0", "close 7",
            "change limits 2 3 channels 6 wides 2", "change limits 2 3 channels 6 wides 2",
            "come 1 " + str(list(desk)[10][2]),
        ))

    def test_beginnings(self):
        for limits, text, wide_limit in (
            ([3, 3, 3], "01 01 01 2 2 2", 20), ([1], ".", 0), ([20], " ".join(["*"] * 3 + ["."] * 21), 7),
            ([1, 1, 1, 1, 1], "01234 . . .", 3),
        ):
            desk = desk_of(limits, text, wide_limit=wide_limit)
            numbers = " ".join(map(str, limits))
            body = f"desk limits {numbers} channels {len(desk.state)} wides {wide_limit} state {text}"
            self.assertEqual(desk_log(desk), log_of(body))
            self.assert_same(open_desk(log_of(body)), desk)

    def test_records_that_were_taken_back(self):
        desk, _ = busy_desk()
        whole = desk_log(desk)
        rows = whole.splitlines(keepends=True)
        for back in range(1, 12):
            desk.undo()
            self.assertEqual(desk_log(desk), "".join(rows[:-back]))
        desk.redo(11)
        self.assertEqual(desk_log(desk), whole)
        desk.undo(2)
        desk.close(3)
        self.assertEqual(desk_log(desk), "".join(rows[:10]) + record_line(10, "close 3"))

    def test_the_desk_stays(self):
        desk, _ = busy_desk()
        before = seen(desk)
        desk_log(desk)
        self.assertEqual(seen(desk), before)


class OpeningTest(DeskLogTest):
    def test_cut_at_every_sign(self):
        desk, moments = busy_desk()
        text = desk_log(desk)
        for at in range(len(text) + 1):
            whole = text[:at].count("\n")
            if whole == 0:
                self.assert_bad(text[:at], 0)
                continue
            again = open_desk(text[:at])
            self.assertEqual(seen(again), moments[whole - 1])
            self.assertEqual(desk_log(again), text[:text[:at].rfind("\n") + 1])
            with self.assertRaises(NothingLeft):
                again.redo()

    def test_undo_and_redo_of_an_opened_desk(self):
        desk, moments = busy_desk()
        again = open_desk(desk_log(desk))
        with self.assertRaises(NothingLeft) as found:
            again.redo()
        self.assertEqual(found.exception.count, 1)
        for moment in moments[-2::-1]:
            again.undo()
            self.assertEqual(seen(again), moment)
        with self.assertRaises(NothingLeft):
            again.undo()
        again.redo(11)
        self.assert_same(again, desk)

    def test_further_deeds(self):
        desk, _ = busy_desk()
        again = open_desk(desk_log(desk))
        for one in (desk, again):
            one.undo(3)
            one.close(5)
            one.go(1, 1)
            one.come(1, wish=4)
            one.undo()
            one.change(channels=9)
            one.reopen(5)
        self.assert_same(again, desk)
        self.assert_same(open_desk(desk_log(again)), desk)

    def test_drawn_desks(self):
        draw = random.Random(62)
        kinds = set()
        for number in range(40):
            desk = drawn_desk(draw, 40)
            kinds |= {record[0] for record in desk}
            again = open_desk(desk_log(desk))
            self.assert_same(again, desk)
            many = draw.randint(0, len(desk))
            for one in (desk, again):
                one.undo(many)
                same_draw = random.Random(number)
                for _ in range(15):
                    try_drawn_deed(one, same_draw)
            self.assert_same(again, desk)
            self.assert_same(open_desk(desk_log(again)), desk)
        self.assertEqual(kinds, {"come", "go", "close", "reopen", "change"})

    def test_a_log_whose_end_was_replaced_goes_on(self):
        desk = desk_of([3, 3], ". . . . .")
        desk.come(0, wish=3)
        text = desk_log(desk)
        again = open_desk(text + "2 come 1 0 99")
        again.come(1)
        self.assertEqual(desk_log(again), text + record_line(2, f"come 1 {list(again)[1][2]}"))


class FirstLineTest(DeskLogTest):
    def test_no_whole_line(self):
        for text in ("", "0", log_of(HEAD)[:-1], "nothing at all"):
            self.assert_bad(text, 0)

    def test_other_forms(self):
        self.assertEqual(open_desk(log_of(HEAD)).state, [()] * 5)
        house, state = "limits 3 3 channels 5 wides 20", ". . . . ."
        for body in (
            f"desk {house} state", f"desk {house} state ", f"desk {house}", f"desk {state}", f"{house} state {state}",
            f"Desk {house} state {state}", f"desk  {house} state {state}", f"desk {house}  state {state}",
            f"desk {house} state  {state}", f" desk {house} state {state}", f"desk {house} state {state} ",
            f"desk state {state} {house}", f"desk {state} state {house}", f"state {state} desk {house}",
            f"desk {house} State {state}", f"desk {house} state {state} state {state}", f"desk{house} state {state}",
            "desk limits 3 3 wides 20 channels 5 state . . . . .",
            "desk channels 5 limits 3 3 wides 20 state . . . . .",
            "desk limits 03 3 channels 5 wides 20 state . . . . .", "desk limits channels 5 wides 20 state . . . . .",
            "desk limits 3 3 channels 5 wides 21 state . . . . .", "desk limits 21 channels 24 wides 20 state none",
            f"desk {house} state . . . . +", f"desk {house} state . . . . 10", f"desk {house} state none", "desk",
            "state",
            " state ", "desk  state ", "come 0 0", "change limits 3 3 channels 5 wides 20",
        ):
            self.assert_bad(log_of(body), 0)
            self.assert_bad(log_of(body, "come 0 0"), 0)

    def test_states_that_are_not_valid(self):
        for house, state in (
            ("limits 3 3 channels 5 wides 20", ". . . ."), ("limits 3 3 channels 5 wides 20", ". . . . . ."),
            ("limits 3 3 channels 5 wides 20", ". . . . 2"), ("limits 1 3 channels 5 wides 20", "0 0 . . ."),
            ("limits 3 3 channels 5 wides 0", "* . . . ."), ("limits 1 channels 1 wides 20", "none"),
        ):
            self.assert_bad(log_of(f"desk {house} state {state}"), 0)

    def test_states_that_are_not_safe(self):
        for house, state in (
            ("limits 3 3 channels 3 wides 20", ". . ."), ("limits 1 channels 0 wides 20", "none"),
            ("limits 3 3 channels 4 wides 20", "0 0 1 1"), ("limits 3 3 3 channels 6 wides 20", "01 01 1 0 2 2"),
        ):
            self.assert_bad(log_of(f"desk {house} state {state}"), 0)
        text = log_of("desk limits 3 3 channels 4 wides 20 state . . . .")
        self.assertEqual(open_desk(text).spare, 0)


class RecordsTest(DeskLogTest):
    def test_no_written_records(self):
        for body in (
            "come", "come 0", "come 0 0 0", "come 00 0", "come 0 00", "come +0 0", "come 0 24", "come 5 0", "come x 0",
            "come * -1", " come 0 0", "come 0 0 ", "come  0 0", "go 0", "go 0 0 0", "go * 0", "close", "close *",
            "close 24",
            "close 01", "reopen", "undo", "undo 1", "redo", "change", "change limits 3 3", HEAD, "COME 0 0", "drop 0",
            "change limits 3 3 channels 5 wides 21", "change 3 3 5 20", " ", "take 0 0 0", "come 0, 0",
        ):
            self.assert_bad(log_of(HEAD, body), 1)
            self.assert_bad(log_of(HEAD, "come 0 0", body, "go 0 0"), 2)

    def test_cells_that_the_house_does_not_have(self):
        for body in ("come 2 0", "come 4 0", "come 3 4", "go 0 2", "go 0 4"):
            self.assert_bad(log_of(HEAD, body), 1)
            self.assert_bad(log_of(HEAD, "come 0 0", "come 1 0", body), 3)

    def test_calls_that_could_not_come(self):
        full = ["come 0 0", "come 0 1", "come 0 2"]
        self.assertEqual(len(open_desk(log_of(HEAD, *full))), 3)
        for body in ("come 0 3", "come * 4", "come 0 0", "come 1 5", "come 1 23"):
            self.assert_bad(log_of(HEAD, *full, body), 4)
        self.assert_bad(log_of(HEAD, "come 0 0", "come 0 0"), 2)
        self.assert_bad(log_of(HEAD, "come * 0", "come 0 0"), 2)
        self.assert_bad(log_of(HEAD, "come 0 0", "come * 0"), 2)
        self.assert_bad(log_of("desk limits 3 channels 5 wides 1 state * . . . .", "come * 1"), 1)

    def test_channels_that_are_no_grants(self):
        head = "desk limits 3 3 channels 4 wides 20 state 0 1 0 ."
        self.assertEqual(desk_of([3, 3], "0 1 0 .").grants(1), [0, 2])
        for channel in range(6):
            text = log_of(head, f"come 1 {channel}")
            if channel in (0, 2):
                self.assertEqual(list(open_desk(text)), [("come", 1, channel)])
            else:
                self.assert_bad(text, 1)
        closed = ["close 4", "come 0 4"]
        self.assert_bad(log_of(HEAD, *closed), 2)
        self.assertEqual(len(open_desk(log_of(HEAD, "close 4", "come 0 3", "reopen 4", "come 0 4"))), 4)

    def test_calls_that_could_not_go(self):
        for body in ("go 0 0", "go 1 1", "go 1 *", "go 5 0", "go 4 *", "go 0 1"):
            self.assert_bad(log_of(HEAD, "come 0 1", "come 1 0", "go 0 1", body), 4)

    def test_channels_that_could_not_be_closed_or_opened(self):
        self.assertEqual(open_desk(log_of(HEAD, "close 3")).closed, (3,))
        for bodies in (
            ["close 5"], ["close 23"], ["close 3", "close 3"], ["reopen 3"], ["close 3", "reopen 2"], ["reopen 9"],
            ["close 3", "reopen 3", "reopen 3"], ["close 3", "close 4"],
        ):
            self.assert_bad(log_of(HEAD, *bodies), len(bodies))

    def test_changes_that_could_not_be(self):
        for body in (
            "change limits 3 channels 5 wides 20", "change limits 3 3 3 channels 8 wides 20",
            "change limits 3 3 channels 3 wides 20", "change limits 9 9 channels 5 wides 20",
            "change limits 1 3 channels 9 wides 20", "change limits 3 3 channels 5 wides 0",
            "change limits 3 3 channels 4 wides 20",
        ):
            self.assert_bad(log_of(HEAD, "come 0 0", "come 0 1", "come * 4", body), 4)
        for body in ("change limits 3 3 channels 5 wides 20", "change limits 3 2 channels 6 wides 1"):
            self.assertEqual(len(open_desk(log_of(HEAD, "come 0 0", "come 0 1", "come * 4", body))), 4)
        self.assert_bad(log_of(HEAD, "change limits 3 3 channels 9 wides 20", "come 0 9"), 2)

    def test_which_error_comes_first(self):
        # The check sums and numbers of all lines come before what the lines say.
        rows = [record_line(0, HEAD), record_line(1, "come 9 9"), record_line(2, "come 0 0")]
        self.assert_bad("".join(rows), 1)
        for wrong in ("2 come 0 0 000\n", record_line(3, "come 0 0"), "\n"):
            self.assert_bad("".join(rows[:2]) + wrong, 2)
            self.assert_bad(record_line(0, "no desk") + record_line(1, "come 0 0") + wrong, 2)
        self.assert_bad(record_line(0, "no desk") + record_line(1, "come 9 9"), 0)
        self.assert_bad("".join(rows) + "3 come", 1)
        self.assert_bad(log_of(HEAD, "come 0 0", "come 9 9", "come 8 8"), 2)

    def test_every_sign_replaced(self):
        draw = random.Random(63)
        desk = drawn_desk(draw, 6)
        text = desk_log(desk)
        for at, sign in enumerate(text):
            if sign != "\n":
                other = draw.choice([chr(code) for code in range(32, 127) if chr(code) != sign])
                self.assert_bad(text[:at] + other + text[at + 1:], text[:at].count("\n"))

    def test_drawn_lines(self):
        # A body replaced by a drawn record opens if and only if a desk can do it.
        draw = random.Random(64)
        right = 0
        for _ in range(300):
            desk = drawn_desk(draw, 12)
            bodies = read_lines(desk_log(desk))[0]
            channel, where = draw.randrange(14), draw.choice("*0123")
            body = draw.choice((
                f"come {where} {channel}", f"go {channel} {where}", f"close {channel}", f"reopen {channel}",
            ))
            try:
                again = open_desk(log_of(*bodies, body))
            except BadLog as error:
                self.assertEqual(error.line, len(bodies))
                self.assertFalse(self.can_do(desk, body.split(" ")))
            else:
                right += 1
                self.assertEqual(list(again)[:-1], list(desk))
                self.assertTrue(self.can_do(desk, body.split(" ")))
        self.assertGreater(right, 30)

    def can_do(self, desk, words):
        kind, numbers = words[0], [-1 if word == "*" else int(word) for word in words[1:]]
        if kind == "come" and numbers[0] >= desk.house.cells:
            return False
        try:
            if kind == "come":
                return numbers[1] in desk.grants(numbers[0])
            getattr(desk, kind)(*numbers)
        except (OverLimit, NoSuchCall, NoSuchChannel, Unsafe):
            return False
        return True


if __name__ == "__main__":
    unittest.main()
