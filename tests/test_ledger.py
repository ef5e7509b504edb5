import random
import unittest

from tests.deeds import DeedTest
from tests.test_nets import drawn_net
from unmovedways.errors import InvalidRoute, NoSuchBooking, OverLimit
from unmovedways.ledger import Ledger
from unmovedways.nets import Net
from unmovedways.states import Loads

# The groups are the links 0, 1 and 2 of the bare place 1, the link 3 and the link 4.
NET = Net([(0, 1, 2), (1, 2, 2), (1, 3, 1), (3, 4, 2), (4, 5, 1)], channels=4, bare=[1])


def seen(ledger, many=8):
    """All that can be read of a ledger."""
    told = []
    for number in range(many):
        try:
            told.append((ledger.status(number), list(ledger.given(number))))
        except NoSuchBooking:
            told.append(None)
    return [vars(ledger.net), list(ledger.loads), told, list(ledger.unanswered())]


class LedgerTest(DeedTest):
    seen = staticmethod(seen)

    def assert_told(self, ledger, number, status, given):
        self.assertEqual([ledger.status(number), ledger.given(number)], [status, given])


class AskTest(LedgerTest):
    def test_a_new_ledger(self):
        ledger = Ledger(NET)
        self.assertEqual(vars(ledger.net), vars(NET))
        self.assertIs(type(ledger.loads), Loads)
        self.assertEqual([ledger.loads.counts, ledger.unanswered()], [(0, 0, 0, 0, 0), []])
        # A ledger knows no needs: it can be made for any net.
        self.assertEqual(Ledger(Net([(0, 1, 3)], channels=0)).ask([0]), 0)

    def test_numbers_and_letters(self):
        ledger = Ledger(NET)
        for number, route in enumerate(([0, 1, 2, 4], (0, 3), [1])):
            self.assertEqual(ledger.ask(route), number)
            self.assert_told(ledger, number, "asking", [])
        self.assertEqual(ledger.unanswered(), [
            ("take", 0, 0, -1), ("take", 0, 2, 0), ("take", 1, 0, 0), ("take", 1, 1, 0), ("take", 2, 0, 1),
        ])
        self.assertEqual({type(letter) for letter in ledger.unanswered()}, {tuple})
        self.assertEqual(ledger.loads.counts, (2, 2, 1, 1, 1))

    def test_invalid_routes_come_before_limits(self):
        ledger = Ledger(NET)
        ledger.ask([4])
        for route, place in (
            ([], -1), ([-1], -1), ([5], -1), ([4, 4], -1), ([4, 3], -1), ([3, 4, 5], -1), ([0, 1], 1), ([1, 2, 4], 1),
        ):
            self.assert_error(ledger, InvalidRoute, {"place": place}, "ask", route)
            self.assert_error(ledger, InvalidRoute, {"place": place}, "ask", tuple(route))
        self.assertEqual(ledger.ask([3]), 1)

    def test_over_limit(self):
        ledger = Ledger(NET)
        for route in ([0, 1, 2], [4], [0], [3]):
            ledger.ask(route)
        for route, link in (([0], 0), ([2], 2), ([4], 4), ([3, 4], 4), ([2, 3, 4], 2), ([0, 1, 2, 4], 0), ((1, 4), 4)):
            self.assert_error(ledger, OverLimit, {"where": link}, "ask", route)
        self.assertEqual(ledger.ask([1, 3]), 4)

    def test_route_that_is_changed_afterwards(self):
        ledger, route = Ledger(NET), [0, 3]
        ledger.ask(route)
        route[0] = 1
        route.append(4)
        self.assertEqual(ledger.loads.counts, (1, 0, 0, 1, 0))
        self.assertEqual(ledger.unanswered(), [("take", 0, 0, 0), ("take", 0, 1, 0)])


class StatusTest(LedgerTest):
    def test_all_words(self):
        ledger = Ledger(NET)
        ledger.ask([1, 3, 4])
        self.assertIsNone(ledger.hear(("given", 0, 1, 2)))
        self.assert_told(ledger, 0, "asking", [(1, 2)])
        self.assertEqual(ledger.unanswered(), [("take", 0, 0, 1), ("take", 0, 2, 0)])
        ledger.hear(("given", 0, 0, 3))
        self.assert_told(ledger, 0, "asking", [(0, 3), (1, 2)])
        ledger.hear(("given", 0, 2, 0))
        self.assert_told(ledger, 0, "up", [(0, 3), (1, 2), (2, 0)])
        self.assertEqual(ledger.unanswered(), [])
        self.assertIsNone(ledger.end(0))
        self.assert_told(ledger, 0, "ending", [(0, 3), (1, 2), (2, 0)])
        self.assertEqual(ledger.unanswered(), [("drop", 0, 0), ("drop", 0, 1), ("drop", 0, 2)])
        ledger.hear(("dropped", 0, 2))
        ledger.hear(("dropped", 0, 0))
        self.assert_told(ledger, 0, "ending", [(0, 3), (1, 2), (2, 0)])
        self.assertEqual(ledger.unanswered(), [("drop", 0, 1)])
        self.assertEqual(ledger.loads.counts, (0, 1, 0, 1, 1))
        ledger.hear(("dropped", 0, 1))
        self.assert_told(ledger, 0, "gone", [(0, 3), (1, 2), (2, 0)])
        self.assertEqual([ledger.loads.counts, ledger.unanswered()], [(0, 0, 0, 0, 0), []])

    def test_answers_twice_and_in_another_order(self):
        ledger = Ledger(NET)
        ledger.ask([0, 1, 2, 3])
        for _ in range(3):
            ledger.hear(("given", 0, 1, 1))
            self.assert_told(ledger, 0, "asking", [(1, 1)])
        ledger.hear(("given", 0, 0, 0))
        before = seen(ledger)
        for letter in (("given", 0, 1, 1), ("given", 0, 0, 0)):
            ledger.hear(letter)
            self.assertEqual(seen(ledger), before)
        ledger.end(0)
        for _ in range(3):
            ledger.hear(("dropped", 0, 1))
            self.assert_told(ledger, 0, "ending", [(0, 0), (1, 1)])
        ledger.hear(("dropped", 0, 0))
        before = seen(ledger)
        for letter in (("dropped", 0, 0), ("dropped", 0, 1), ("given", 0, 0, 0)):
            ledger.hear(letter)
            self.assertEqual(seen(ledger), before)

    def test_ended_before_all_groups_have_answered(self):
        ledger = Ledger(NET)
        ledger.ask([0, 3])
        ledger.hear(("given", 0, 1, 1))
        ledger.end(0)
        # An answer that comes late changes nothing.
        ledger.hear(("given", 0, 0, 0))
        self.assert_told(ledger, 0, "ending", [(1, 1)])
        self.assertEqual(ledger.unanswered(), [("drop", 0, 0), ("drop", 0, 1)])
        ledger.hear(("dropped", 0, 0))
        ledger.hear(("given", 0, 0, 0))
        self.assert_told(ledger, 0, "ending", [(1, 1)])
        ledger.hear(("dropped", 0, 1))
        self.assert_told(ledger, 0, "gone", [(1, 1)])

    def test_ended_without_an_answer(self):
        ledger = Ledger(NET)
        ledger.ask([4])
        ledger.end(0)
        ledger.hear(("dropped", 0, 2))
        self.assert_told(ledger, 0, "gone", [])

    def test_no_such_booking(self):
        ledger = Ledger(NET)
        for number in (-1, 0, 1, 10 ** 9):
            for deed in ("status", "given", "end"):
                self.assert_error(ledger, NoSuchBooking, {"number": number}, deed, number)
        for _ in range(2):
            ledger.ask([3])
        for number in (-1, -2, 2, 3):
            for deed in ("status", "given", "end"):
                self.assert_error(ledger, NoSuchBooking, {"number": number}, deed, number)
        ledger.end(1)
        self.assert_error(ledger, NoSuchBooking, {"number": 1}, "end", 1)
        ledger.hear(("dropped", 1, 1))
        self.assert_error(ledger, NoSuchBooking, {"number": 1}, "end", 1)
        self.assert_told(ledger, 1, "gone", [])
        self.assert_told(ledger, 0, "asking", [])

    def test_loads_count_until_a_booking_is_gone(self):
        ledger = Ledger(NET)
        ledger.ask([2, 4])
        ledger.hear(("given", 0, 0, 0))
        ledger.end(0)
        ledger.hear(("dropped", 0, 0))
        self.assertEqual(ledger.loads.counts, (0, 0, 1, 0, 1))
        self.assert_error(ledger, OverLimit, {"where": 2}, "ask", [2])
        self.assert_error(ledger, OverLimit, {"where": 4}, "ask", [3, 4])
        ledger.hear(("dropped", 0, 2))
        self.assertEqual(ledger.loads.counts, (0, 0, 0, 0, 0))
        self.assertEqual(ledger.ask([2, 3, 4]), 1)

    def test_order_of_the_unanswered(self):
        ledger = Ledger(NET)
        for route in ([3], [0, 1, 2, 4], [3], [1]):
            ledger.ask(route)
        ledger.end(2)
        ledger.hear(("given", 1, 0, 0))
        ledger.end(0)
        self.assertEqual(ledger.unanswered(), [
            ("drop", 0, 1), ("take", 1, 2, 0), ("drop", 2, 1), ("take", 3, 0, 1),
        ])

    def test_lists_that_were_returned_are_changed(self):
        ledger = Ledger(NET)
        ledger.ask([0, 3])
        ledger.hear(("given", 0, 1, 1))
        before = seen(ledger)
        ledger.unanswered().clear()
        ledger.given(0).append((0, 0))
        self.assertEqual(seen(ledger), before)
        given, letters, loads = ledger.given(0), ledger.unanswered(), ledger.loads
        ledger.hear(("given", 0, 0, 2))
        ledger.ask([4])
        self.assertEqual([given, letters, loads.counts], [[(1, 1)], [("take", 0, 0, 0)], (1, 0, 0, 1, 0)])

    def test_two_ledgers_of_one_net(self):
        one, other = Ledger(NET), Ledger(NET)
        one.ask([0, 3])
        self.assertEqual([other.loads.counts, other.unanswered()], [(0, 0, 0, 0, 0), []])


class RunTest(LedgerTest):
    def test_drawn_answers(self):
        # The answers of a world in which each group answers what it is asked, some of them twice and late.
        draw = random.Random(68)
        for _ in range(30):
            net = drawn_net(draw)
            ledger, routes, answers = Ledger(net), {}, []
            for _ in range(80):
                self.drawn_deed(ledger, routes, answers, draw)
                gone = [number for number in routes if ledger.status(number) == "gone"]
                standing = [routes[number] for number in routes if number not in gone]
                counts = [sum(link in route for route in standing) for link in range(len(net.links))]
                self.assertEqual(list(ledger.loads), counts)
                self.assertTrue(ledger.loads.within([limit for _, _, limit in net.links]))
            for letter in ledger.unanswered():
                ledger.hear(self.answer(letter))
            self.assertEqual(ledger.unanswered(), [])
            self.assertLessEqual({ledger.status(number) for number in routes}, {"up", "gone"})

    def answer(self, letter):
        if letter[0] == "drop":
            return ("dropped", *letter[1:])
        return ("given", letter[1], letter[2], letter[2] + letter[1] % 3)

    def drawn_deed(self, ledger, routes, answers, draw):
        kind = draw.choice(("ask", "ask", "end", "hear", "hear", "hear"))
        if kind == "ask":
            many = len(ledger.net.links)
            route = sorted(draw.sample(range(many), draw.randint(1, min(3, many))))
            try:
                routes[ledger.ask(route)] = route
            except (OverLimit, InvalidRoute):
                pass
        elif kind == "end" and routes:
            number = draw.choice(list(routes))
            status = ledger.status(number)
            if status in ("asking", "up"):
                ledger.end(number)
                self.assertEqual(ledger.status(number), "ending")
            else:
                self.assert_error(ledger, NoSuchBooking, {"number": number}, "end", number)
        elif kind == "hear":
            answers.extend(self.answer(letter) for letter in ledger.unanswered() if draw.random() < 0.5)
            if answers:
                letter = draw.choice(answers)
                before = ledger.status(letter[1])
                ledger.hear(letter)
                counts = {"given": ("asking", "up"), "dropped": ("ending", "gone")}[letter[0]]
                self.assertIn(ledger.status(letter[1]), counts if before == counts[0] else (before,))


if __name__ == "__main__":
    unittest.main()
