import random
import unittest

from tests.deeds import DeedTest
from tests.test_ledger import seen as seen_of_ledger
from tests.test_nets import drawn_net
from unmovedways.agents import Agent
from unmovedways.errors import InvalidRoute, NoLetter, NoSuchBooking, OverLimit, Unsafe
from unmovedways.ledger import Ledger
from unmovedways.lines import record_line
from unmovedways.need import is_safe
from unmovedways.netdesk import NetDesk
from unmovedways.nets import Net, least_channels
from unmovedways.post import Post
from unmovedways.states import check_state, loads

# The groups are the links 0, 1 and 2 of the bare place 1, the link 3 and the link 4.
NET = Net([(0, 1, 2), (1, 2, 2), (1, 3, 1), (3, 4, 2), (4, 5, 1)], channels=4, bare=[1])


def seen(post):
    """All that can be read of a post."""
    agents = [[list(agent.state), agent.log, list(agent.calls()), list(agent.ended())] for agent in post.agents]
    return [list(post.letters), seen_of_ledger(post.ledger), agents]


class PostTest(DeedTest):
    seen = staticmethod(seen)

    def assert_holds(self, post, routes):
        """Checks what point 70 says of a post at any time."""
        ledger, net = post.ledger, post.ledger.net
        for group, agent in enumerate(post.agents):
            house = net.house_of(group)
            check_state(house, agent.state)
            self.assertTrue(is_safe(house, agent.state))
            for cell, load in enumerate(loads(house, agent.state)):
                link = net.groups[group][cell]
                self.assertLessEqual(load, ledger.loads[link])
                self.assertLessEqual(ledger.loads[link], net.links[link][2])
            numbers = [number for number, _, _ in agent.calls()]
            self.assertEqual(len(numbers), len(set(numbers)))
            self.assertFalse(set(numbers) & set(agent.ended()))
            for number, where, channel in agent.calls():
                self.assertIn((group, where), net.parts_of(routes[number]))
                self.assertNotEqual(ledger.status(number), "gone")
                self.assertIn(where, agent.state[channel])
        for number, route in routes.items():
            if ledger.status(number) == "up":
                groups = [group for group, _ in net.parts_of(route)]
                self.assertEqual([group for group, _ in ledger.given(number)], groups)
                for group, channel in ledger.given(number):
                    calls = {call[0]: call[2] for call in post.agents[group].calls()}
                    self.assertEqual(calls[number], channel)

    def assert_settled(self, post, routes, ended):
        self.assertIsNone(post.settle())
        self.assert_holds(post, routes)
        self.assertEqual([post.letters, post.ledger.unanswered()], [[], []])
        statuses = {number: post.ledger.status(number) for number in routes}
        self.assertEqual(statuses, {number: "gone" if number in ended else "up" for number in routes})
        wanted = [set() for _ in post.agents]
        for number, route in routes.items():
            for group, where in post.ledger.net.parts_of(route) if number not in ended else []:
                wanted[group].add((number, where))
        found = [{(number, where) for number, where, _ in agent.calls()} for agent in post.agents]
        self.assertEqual(found, wanted)


class MakingTest(PostTest):
    def test_example_of_the_interface(self):
        post = Post(Net([(0, 1, 1)], channels=1))
        number = post.ask([0])
        post.lose(0)
        post.settle()
        found = [number, post.ledger.status(0), post.ledger.given(0), post.letters]
        self.assertEqual(found, [0, "up", [(0, 0)], []])

    def test_a_new_post(self):
        post = Post(NET)
        self.assertEqual([type(post.ledger), type(post.agents)], [Ledger, list])
        self.assertEqual([type(agent) for agent in post.agents], [Agent] * 3)
        self.assertEqual([agent.group for agent in post.agents], [0, 1, 2])
        self.assertEqual([vars(agent.net) for agent in post.agents], [vars(NET)] * 3)
        self.assertEqual([post.letters, post.ledger.loads.counts, post.ledger.unanswered()], [[], (0,) * 5, []])
        for agent in post.agents:
            self.assertEqual([agent.state, agent.log, agent.calls(), agent.ended()], [[()] * 4, "", [], []])

    def test_unsafe(self):
        for links, bare, least in (([(0, 1, 3), (1, 2, 3)], [1], 4), ([(0, 1, 3), (1, 2, 5)], [], 5)):
            for channels in range(8):
                net = Net(links, channels=channels, bare=bare)
                if channels >= least:
                    self.assertEqual(Post(net).letters, [])
                    continue
                with self.assertRaises(Unsafe) as found:
                    Post(net)
                self.assertEqual(vars(found.exception), {"need": least})


class LettersTest(PostTest):
    def test_ask_and_end(self):
        post = Post(NET)
        self.assertEqual([post.ask([0, 1, 2, 4]), post.ask((0, 3))], [0, 1])
        first = [("take", 0, 0, -1), ("take", 0, 2, 0), ("take", 1, 0, 0), ("take", 1, 1, 0)]
        self.assertEqual(post.letters, first)
        self.assertIsNone(post.end(0))
        self.assertEqual(post.letters, [*first, ("drop", 0, 0), ("drop", 0, 2)])
        self.assertEqual([post.ledger.status(0), post.ledger.status(1)], ["ending", "asking"])

    def test_errors_of_the_ledger(self):
        post = Post(NET)
        for route in ([2, 4], [3]):
            post.ask(route)
        for route, place in (([], -1), ([-1], -1), ([5], -1), ([4, 2], -1), ([0, 1, 4], 1)):
            self.assert_error(post, InvalidRoute, {"place": place}, "ask", route)
        for route, link in (([2], 2), ([3, 4], 4), ([0, 1, 2, 4], 2)):
            self.assert_error(post, OverLimit, {"where": link}, "ask", route)
        post.end(1)
        for number in (-1, 1, 2, 10 ** 9):
            self.assert_error(post, NoSuchBooking, {"number": number}, "end", number)

    def test_no_letter(self):
        post = Post(NET)
        for many in (0, 3, 4):
            self.assertEqual(len(post.letters), many)
            for index in (-1, -many, many, many + 1, 10 ** 9):
                if not 0 <= index < many:
                    for deed in ("deliver", "double", "lose"):
                        self.assert_error(post, NoLetter, {"index": index}, deed, index)
                    for keep in (0, 1000):
                        self.assert_error(post, NoLetter, {"index": index}, "cut", index, keep)
            post.ask([0, 3, 4] if many == 0 else [1])

    def test_deliver(self):
        post = Post(NET)
        post.ask([0, 3])
        self.assertIsNone(post.deliver(1))
        self.assertEqual(post.letters, [("take", 0, 0, 0), ("given", 0, 1, 0)])
        self.assertEqual(post.agents[1].calls(), [(0, 0, 0)])
        self.assertIsNone(post.deliver(1))
        self.assertEqual([post.letters, post.ledger.given(0)], [[("take", 0, 0, 0)], [(1, 0)]])
        post.deliver(0)
        post.deliver(0)
        self.assertEqual([post.letters, post.ledger.status(0)], [[], "up"])

    def test_double_and_lose(self):
        post = Post(NET)
        post.ask([0, 3])
        self.assertIsNone(post.double(0))
        first = [("take", 0, 0, 0), ("take", 0, 1, 0), ("take", 0, 0, 0)]
        self.assertEqual(post.letters, first)
        self.assertIsNone(post.lose(1))
        self.assertEqual(post.letters, [first[0], first[2]])
        post.deliver(0)
        post.deliver(0)
        self.assertEqual(post.letters, [("given", 0, 0, 0)] * 2)
        self.assertEqual(post.agents[0].log, record_line(0, "take 0 0 0"))
        post.lose(0)
        post.double(0)
        self.assertEqual(post.letters, [("given", 0, 0, 0)] * 2)

    def test_cut(self):
        line = record_line(0, "take 0 0 0")
        for keep in range(len(line) + 2):
            post = Post(NET)
            post.ask([0, 3])
            self.assertIsNone(post.cut(0, keep))
            self.assertEqual(post.letters, [("take", 0, 1, 0)])
            self.assertEqual(post.agents[0].log, line if keep >= len(line) else "")
            self.assertEqual(post.ledger.unanswered(), [("take", 0, 0, 0), ("take", 0, 1, 0)])

    def test_cut_of_a_letter_to_the_ledger(self):
        for keep in (0, 3, 100):
            post = Post(NET)
            post.ask([4])
            post.deliver(0)
            self.assertEqual(post.letters, [("given", 0, 2, 0)])
            post.cut(0, keep)
            self.assertEqual([post.letters, post.ledger.status(0)], [[], "up"])
            post.end(0)
            post.deliver(0)
            post.cut(0, keep)
            self.assertEqual([post.letters, post.ledger.status(0)], [[], "gone"])

    def test_resend(self):
        post = Post(NET)
        post.ask([0, 3])
        post.ask([4])
        for _ in range(3):
            post.lose(0)
        self.assertIsNone(post.resend())
        first = [("take", 0, 0, 0), ("take", 0, 1, 0), ("take", 1, 2, 0)]
        self.assertEqual(post.letters, first)
        post.deliver(0)
        post.deliver(2)
        post.end(1)
        post.resend()
        self.assertEqual(post.letters, [*first[1:], ("drop", 1, 2), ("take", 0, 1, 0), ("drop", 1, 2)])

    def test_letters_that_come_too_late(self):
        post, routes = Post(NET), {0: [0, 3]}
        post.ask([0, 3])
        post.double(0)
        post.end(0)
        self.assertEqual([letter[0] for letter in post.letters], ["take", "take", "take", "drop", "drop"])
        for index in (3, 3, 0):
            post.deliver(index)
        # Both agents have ended the booking, so the letters to take its calls are answered by dropped.
        self.assertEqual(post.letters[-3:], [("dropped", 0, 0), ("dropped", 0, 1), ("dropped", 0, 0)])
        post.deliver(2)
        self.assertEqual(post.ledger.status(0), "ending")
        post.deliver(2)
        self.assertEqual(post.ledger.status(0), "gone")
        self.assertEqual(post.ledger.loads.counts, (0,) * 5)
        while post.letters:
            post.deliver(len(post.letters) - 1)
        self.assert_holds(post, routes)
        self.assertEqual([agent.calls() for agent in post.agents], [[], [], []])

    def test_lists_that_were_returned_are_changed(self):
        post = Post(NET)
        post.ask([0, 3])
        post.letters.clear()
        post.letters.append(("drop", 0, 0))
        self.assertEqual(post.letters, [("take", 0, 0, 0), ("take", 0, 1, 0)])
        letters = post.letters
        post.settle()
        self.assertEqual(len(letters), 2)

    def test_settle(self):
        post = Post(NET)
        self.assertIsNone(post.settle())
        routes = {}
        for route in ([0, 1, 2], [3, 4], [3], [1]):
            routes[post.ask(route)] = route
        post.lose(0)
        post.cut(0, 4)
        post.end(2)
        self.assert_settled(post, routes, {2})
        post.end(0)
        self.assert_settled(post, routes, {0, 2})
        before = seen(post)
        post.settle()
        self.assertEqual(seen(post), before)


class RunTest(PostTest):
    def test_drawn_deeds(self):
        draw = random.Random(70)
        for _ in range(25):
            net = drawn_net(draw)
            channels = min(24, least_channels(net) + draw.randint(0, 1))
            self.run_of(Post(Net(net.links, channels=channels, bare=net.bare)), draw)

    def run_of(self, post, draw):
        routes, ended = {}, set()
        for _ in range(90):
            self.drawn_deed(post, routes, ended, draw)
            self.assert_holds(post, routes)
        before = [agent.log for agent in post.agents]
        for group, agent in enumerate(post.agents):
            again = Agent(post.ledger.net, group, log=before[group])
            self.assertEqual([again.state, again.calls(), again.ended()], [agent.state, agent.calls(), agent.ended()])
        self.assert_settled(post, routes, ended)

    def drawn_deed(self, post, routes, ended, draw):
        kind = draw.choice(("ask", "ask", "end", "resend", "settle", *["deliver"] * 8, *["cut"] * 3, "double", "lose"))
        index = draw.randrange(max(1, len(post.letters)))
        if kind == "ask":
            many = len(post.ledger.net.links)
            route = sorted(draw.sample(range(many), draw.randint(1, min(4, many))))
            try:
                routes[post.ask(route)] = route
            except (OverLimit, InvalidRoute):
                pass
        elif kind == "end":
            left = [number for number in routes if number not in ended]
            if left:
                number = draw.choice(left)
                ended.add(number)
                post.end(number)
        elif kind == "resend" or kind == "settle" and draw.random() < 0.2:
            getattr(post, kind)()
        elif post.letters and kind in ("deliver", "double", "lose"):
            getattr(post, kind)(index)
        elif post.letters and kind == "cut":
            post.cut(index, draw.choice((0, draw.randrange(30), 1000)))

    def test_the_same_routes_as_a_net_desk(self):
        draw = random.Random(71)
        for _ in range(25):
            net = drawn_net(draw)
            net = Net(net.links, channels=least_channels(net), bare=net.bare)
            post, desk = Post(net), NetDesk(net)
            for _ in range(40):
                self.same_deed(post, desk, draw)
                self.assertEqual([post.ledger.loads.counts, post.letters], [desk.loads.counts, []])
                for group, agent in enumerate(post.agents):
                    self.assertEqual(agent.state, desk.group_state(group))
                for number in desk:
                    self.assertEqual(post.ledger.given(number), desk.channels_of(number))

    def same_deed(self, post, desk, draw):
        many = len(desk.net.links)
        route = sorted(draw.sample(range(many), draw.randint(1, min(4, many))))
        if len(desk) > 0 and draw.random() < 0.4:
            number = draw.choice(list(desk))
            desk.release(number)
            post.end(number)
            post.settle()
            return
        try:
            number = desk.book(route)
        except (InvalidRoute, OverLimit) as error:
            with self.assertRaises(type(error)) as found:
                post.ask(route)
            self.assertEqual(vars(found.exception), vars(error))
        else:
            self.assertEqual(post.ask(route), number)
            post.settle()


if __name__ == "__main__":
    unittest.main()
