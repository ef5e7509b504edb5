import random
import unittest

from tests.test_desk import desk_of, seen
from unmovedways.desk import Desk
from unmovedways.errors import InvalidHouse, NoSuchCall, NoSuchChannel, NothingLeft, OverLimit, Unsafe
from unmovedways.house import House
from unmovedways.notation import parse_state


def busy_desk():
    """A desk with a record of each kind, and all that was seen of it before each record and at the end."""
    desk = desk_of([3, 3], ". 0 . . .")
    moments = [seen(desk)]
    deeds = [
        lambda: desk.come(1, wish=1), lambda: desk.come(-1), lambda: desk.close(0),
        lambda: desk.change(channels=8, wide_limit=2), lambda: desk.go(0, -1), lambda: desk.come(0, wish=9),
        lambda: desk.reopen(0), lambda: desk.close(7), lambda: desk.change(channels=6, limits=[2, 3]),
        lambda: desk.change(), lambda: desk.come(1),
    ]
    for deed in deeds:
        deed()
        moments.append(seen(desk))
    return desk, moments


class UndoTest(unittest.TestCase):
    def assert_nothing_left(self, desk, deed, count):
        before = seen(desk)
        with self.assertRaises(NothingLeft) as found:
            getattr(desk, deed)(count)
        self.assertEqual(found.exception.count, count)
        self.assertEqual(seen(desk), before)

    def test_records_of_each_kind(self):
        desk, _ = busy_desk()
        kinds = {record[0] for record in desk}
        self.assertEqual(kinds, {"come", "go", "close", "reopen", "change"})

    def test_one_by_one(self):
        desk, moments = busy_desk()
        for moment in moments[-2::-1]:
            self.assertIsNone(desk.undo())
            self.assertEqual(seen(desk), moment)
        self.assert_nothing_left(desk, "undo", 1)
        for moment in moments[1:]:
            self.assertIsNone(desk.redo())
            self.assertEqual(seen(desk), moment)
        self.assert_nothing_left(desk, "redo", 1)

    def test_several_at_once(self):
        last = len(busy_desk()[1]) - 1
        for back in range(last + 1):
            for again in range(back + 1):
                desk, moments = busy_desk()
                desk.undo(back)
                self.assertEqual(seen(desk), moments[last - back])
                desk.redo(again)
                self.assertEqual(seen(desk), moments[last - back + again])
                self.assert_nothing_left(desk, "undo", last - back + again + 1)
                self.assert_nothing_left(desk, "redo", back - again + 1)

    def test_all_and_one_more(self):
        desk, moments = busy_desk()
        many = len(desk)
        self.assert_nothing_left(desk, "undo", many + 1)
        self.assert_nothing_left(desk, "redo", 1)
        desk.undo(many)
        self.assertEqual(seen(desk), moments[0])
        self.assert_nothing_left(desk, "undo", 1)
        self.assert_nothing_left(desk, "redo", many + 1)
        desk.redo(many)
        self.assertEqual(seen(desk), moments[-1])

    def test_none(self):
        desk, moments = busy_desk()
        self.assertIsNone(desk.undo(0))
        self.assertIsNone(desk.redo(0))
        self.assertEqual(seen(desk), moments[-1])
        desk.undo(3)
        desk.undo(0)
        desk.redo(0)
        self.assertEqual(seen(desk), moments[-4])
        desk.redo(3)
        self.assertEqual(seen(desk), moments[-1])

    def test_an_empty_desk(self):
        desk = Desk(House([1], channels=1))
        desk.undo(0)
        desk.redo(0)
        for count in (1, 2, 10 ** 9):
            self.assert_nothing_left(desk, "undo", count)
            self.assert_nothing_left(desk, "redo", count)

    def test_a_new_deed_drops_what_could_be_done_again(self):
        for deed in (
            lambda desk: desk.come(0), lambda desk: desk.go(1, 0), lambda desk: desk.close(4),
            lambda desk: desk.change(), lambda desk: desk.reopen(3),
        ):
            desk = desk_of([2, 2], ". 0 . . . .")
            desk.close(3)
            desk.come(1)
            desk.come(-1)
            desk.undo(2)
            deed(desk)
            self.assertEqual(len(desk), 2)
            self.assert_nothing_left(desk, "redo", 1)
            desk.undo(2)
            desk.redo(2)
            self.assert_nothing_left(desk, "redo", 1)

    def test_errors_drop_nothing(self):
        desk, moments = busy_desk()
        desk.undo(2)
        for kind, deed in (
            (NoSuchCall, lambda: desk.go(9, 0)), (NoSuchChannel, lambda: desk.close(9)),
            (NoSuchChannel, lambda: desk.reopen(3)), (InvalidHouse, lambda: desk.change(channels=30)),
            (Unsafe, lambda: desk.change(limits=[20, 20])), (OverLimit, lambda: desk.change(limits=[1, 1])),
            (NothingLeft, lambda: desk.undo(99)), (NothingLeft, lambda: desk.redo(3)),
        ):
            with self.assertRaises(kind):
                deed()
            self.assertEqual(seen(desk), moments[-3])
        desk.grants(1)
        desk.redo(2)
        self.assertEqual(seen(desk), moments[-1])

    def test_a_refused_call_drops_nothing(self):
        desk = desk_of([1], ". .")
        desk.come(0)
        desk.change(channels=3)
        desk.undo()
        with self.assertRaises(OverLimit):
            desk.come(0)
        with self.assertRaises(OverLimit):
            desk.grants(-1)
        desk.redo()
        self.assertEqual([desk.house.channels, desk.state], [3, parse_state("0 . .")])

    def test_undo_and_redo_drop_nothing(self):
        desk, moments = busy_desk()
        for back, again in ((3, 1), (4, 2), (1, 1), (2, 6)):
            desk.undo(back)
            desk.redo(again)
        self.assertEqual(seen(desk), moments[-1])

    def test_lists_that_were_read_stay(self):
        desk, moments = busy_desk()
        records, state = list(desk), desk.state
        desk.undo(len(desk))
        self.assertEqual([records, state], [moments[-1][6], moments[-1][3]])

    def test_drawn_walks(self):
        draw = random.Random(38)
        for _ in range(60):
            desk = Desk(House([2, 3], channels=8))
            moments = [seen(desk)]
            for _ in range(60):
                many = len(desk)
                step = draw.choice(("undo", "redo", "come", "close", "change", "go"))
                if step == "undo":
                    desk.undo(draw.randint(0, many))
                elif step == "redo":
                    desk.redo(draw.randint(0, len(moments) - 1 - many))
                elif self.new_deed(desk, step, draw):
                    moments = moments[:many + 1] + [seen(desk)]
                self.assertEqual(seen(desk), moments[len(desk)])
                self.assert_nothing_left(desk, "undo", len(desk) + 1)
                self.assert_nothing_left(desk, "redo", len(moments) - len(desk))

    def new_deed(self, desk, step, draw):
        channel, where = draw.randint(0, 9), draw.randint(-1, 1)
        try:
            if step == "come":
                desk.come(where, wish=channel)
            elif step == "go":
                desk.go(channel, where)
            elif step == "close":
                desk.close(channel)
            else:
                desk.change(channels=channel)
        except ValueError:
            return False
        return True


if __name__ == "__main__":
    unittest.main()
