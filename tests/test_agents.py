import random
import unittest

from unmovedways.agents import Agent
from unmovedways.errors import BadLog, OverLimit, Unsafe
from unmovedways.grants import grants
from unmovedways.lines import record_line
from unmovedways.need import is_safe
from unmovedways.nets import Net, least_channels
from unmovedways.notation import parse_state

# The bare place 1 has the links 0, 1 and 2; the link 3 is a group of its own.
NET = Net([(0, 1, 2), (1, 2, 2), (1, 3, 1), (3, 4, 2)], channels=4, bare=[1])


def log_of(*bodies):
    return "".join(record_line(line, body) for line, body in enumerate(bodies))


def seen(agent):
    """All that can be read of an agent."""
    return [vars(agent.net), agent.group, list(agent.state), agent.log, list(agent.calls()), list(agent.ended())]


def heard(agent, *letters):
    """The agent, once it has heard these letters of its group: (number, where) or a number to drop."""
    for letter in letters:
        if isinstance(letter, tuple):
            agent.hear(("take", letter[0], agent.group, letter[1]))
        else:
            agent.hear(("drop", letter, agent.group))
    return agent


class AgentTest(unittest.TestCase):
    def assert_raises(self, kind, attributes, deed, *args, **keywords):
        with self.subTest(args=args, keywords=keywords):
            with self.assertRaises(kind) as found:
                deed(*args, **keywords)
            self.assertEqual(vars(found.exception), attributes)

    def assert_heard(self, agent, letter, answer, state):
        found = agent.hear(letter)
        self.assertIs(type(found), tuple)
        self.assertEqual([found, agent.state], [answer, parse_state(state)])


class MakingTest(AgentTest):
    def test_example_of_the_interface(self):
        agent = Agent(Net([(0, 1, 1)], channels=1), 0)
        first = agent.hear(("take", 0, 0, 0))
        agent.hear_cut(("drop", 0, 0), 12)
        self.assertEqual(
            [first, agent.calls(), agent.ended(), agent.log],
            [("given", 0, 0, 0), [(0, 0, 0)], [], "0 take 0 0 0 305\n"],
        )

    def test_a_new_agent(self):
        for group in (0, 1):
            agent = Agent(NET, group)
            self.assertEqual(seen(agent), [vars(NET), group, [()] * 4, "", [], []])
            self.assertEqual(seen(Agent(NET, group, log="")), seen(agent))
            self.assertEqual(seen(Agent(NET, group, log="0 take 0 0 0 305")), seen(agent))

    def test_hopeless_groups(self):
        links = [(0, 1, 3), (1, 2, 3), (4, 5, 2)]
        for channels in range(6):
            net = Net(links, channels=channels, bare=[1])
            for group, least in ((0, 4), (1, 2)):
                if channels >= least:
                    self.assertEqual(Agent(net, group).state, [()] * channels)
                    continue
                for log in ("", "no line", "no log\n", log_of("take 0 0 0"), log_of("nothing")):
                    self.assert_raises(Unsafe, {"need": least}, Agent, net, group, log=log)


class HearTest(AgentTest):
    def test_letters_at_each_time(self):
        agent = Agent(NET, 0)
        self.assert_heard(agent, ("take", 3, 0, 1), ("given", 3, 0, 0), "1 . . .")
        self.assert_heard(agent, ("take", 7, 0, -1), ("given", 7, 0, 1), "1 * . .")
        # The same letters once more.
        self.assert_heard(agent, ("take", 3, 0, 1), ("given", 3, 0, 0), "1 * . .")
        self.assert_heard(agent, ("take", 7, 0, -1), ("given", 7, 0, 1), "1 * . .")
        self.assertEqual(agent.log, log_of("take 3 1 0", "take 7 * 1"))
        self.assertEqual([agent.calls(), agent.ended()], [[(3, 1, 0), (7, -1, 1)], []])
        # A call that goes, once more, and a letter that comes too late.
        self.assert_heard(agent, ("drop", 3, 0), ("dropped", 3, 0), ". * . .")
        self.assert_heard(agent, ("drop", 3, 0), ("dropped", 3, 0), ". * . .")
        self.assert_heard(agent, ("take", 3, 0, 1), ("dropped", 3, 0), ". * . .")
        # A drop of a number without a call, and its call afterwards.
        self.assert_heard(agent, ("drop", 5, 0), ("dropped", 5, 0), ". * . .")
        self.assert_heard(agent, ("take", 5, 0, 0), ("dropped", 5, 0), ". * . .")
        self.assertEqual(agent.log, log_of("take 3 1 0", "take 7 * 1", "drop 3", "drop 5"))
        self.assertEqual([agent.calls(), agent.ended()], [[(7, -1, 1)], [3, 5]])

    def test_order_of_calls_and_of_ended_numbers(self):
        agent = heard(Agent(NET, 0), (10, 0), (2, 1), (9, 0), (0, 1), (100, 2))
        self.assertEqual([number for number, _, _ in agent.calls()], [0, 2, 9, 10, 100])
        heard(agent, 9, 100, 0, 10, 2)
        self.assertEqual([agent.calls(), agent.ended()], [[], [0, 2, 9, 10, 100]])
        self.assertEqual({type(call) for call in heard(agent, (1, 0)).calls()}, {tuple})

    def test_lowest_grants(self):
        draw = random.Random(65)
        for _ in range(60):
            limits = [draw.randint(2, 4) for _ in range(draw.randint(2, 3))]
            links = [(0, place + 1, limit) for place, limit in enumerate(limits)]
            net = Net(links, bare=[0])
            net = Net(links, channels=least_channels(net) + draw.randint(0, 1), bare=[0])
            agent = Agent(net, 0)
            for number in range(30):
                where = draw.randrange(-1, len(limits))
                state = agent.state
                try:
                    wanted = grants(net.house_of(0), state, where)[0]
                except OverLimit:
                    heard(agent, draw.randrange(number + 1))
                    continue
                answer = agent.hear(("take", number, 0, where))
                self.assertEqual(answer[0], "dropped" if number in agent.ended() else "given")
                if answer[0] == "given":
                    self.assertEqual(answer[3], wanted)
                self.assertTrue(is_safe(net.house_of(0), agent.state))

    def test_over_limit(self):
        agent = heard(Agent(NET, 0), (0, 2), (1, 0), (2, 0))
        before = seen(agent)
        for where in (0, 2, -1):
            letter = ("take", 9, 0, where)
            self.assert_raises(OverLimit, {"where": where}, agent.hear, letter)
            for keep in (0, 5, 1000):
                self.assert_raises(OverLimit, {"where": where}, agent.hear_cut, letter, keep)
            self.assertEqual(seen(agent), before)
        self.assertEqual(agent.hear(("take", 9, 0, 1))[0], "given")

    def test_known_numbers_come_before_limits(self):
        agent = heard(Agent(NET, 0), (0, 2), 0, (1, 2))
        self.assertEqual(agent.hear(("take", 0, 0, 2)), ("dropped", 0, 0))
        self.assertEqual(agent.hear(("take", 1, 0, 2)), ("given", 1, 0, 0))

    def test_a_group_of_one_link(self):
        agent = Agent(NET, 1)
        self.assert_heard(agent, ("take", 4, 1, 0), ("given", 4, 1, 0), "0 . . .")
        self.assert_heard(agent, ("take", 5, 1, -1), ("given", 5, 1, 1), "0 * . .")
        self.assertEqual([agent.log, agent.calls()], [log_of("take 4 0 0", "take 5 * 1"), [(4, 0, 0), (5, -1, 1)]])
        self.assert_raises(OverLimit, {"where": -1}, agent.hear, ("take", 6, 1, -1))
        self.assert_raises(OverLimit, {"where": 0}, agent.hear, ("take", 6, 1, 0))
        self.assertEqual(seen(Agent(NET, 1, log=agent.log)), seen(agent))
        self.assert_heard(agent, ("drop", 5, 1), ("dropped", 5, 1), "0 . . .")

    def test_lists_that_were_returned_are_changed(self):
        agent = heard(Agent(NET, 0), (3, 0), (4, 1), 4)
        before = seen(agent)
        agent.state[0] = (2,)
        agent.state.clear()
        agent.calls().clear()
        agent.calls()[0] = None
        agent.ended().append(9)
        self.assertEqual(seen(agent), before)
        self.assertEqual(agent.hear(("take", 9, 0, 2)), ("given", 9, 0, 0))
        calls = agent.calls()
        heard(agent, 3)
        self.assertEqual(len(calls), 2)


class CutTest(AgentTest):
    def agents(self):
        """Agents that have heard the same, one for each use."""
        return heard(Agent(NET, 0), (3, 0), (4, -1), 5)

    def test_each_number_of_signs(self):
        for letter, body in (
            (("take", 8, 0, 1), "take 8 1 0"), (("drop", 4, 0), "drop 4"), (("drop", 77, 0), "drop 77"),
        ):
            line = record_line(3, body)
            whole = self.agents()
            whole.hear(letter)
            self.assertEqual(whole.log, self.agents().log + line)
            for keep in range(len(line) + 3):
                agent = self.agents()
                self.assertIsNone(agent.hear_cut(letter, keep))
                self.assertEqual(seen(agent), seen(whole if keep >= len(line) else self.agents()))
                # It goes on as if nothing had been, or as if the letter had come twice.
                agent.hear(letter)
                self.assertEqual(seen(agent), seen(whole))

    def test_letters_that_make_it_write_nothing(self):
        for letter in (("take", 3, 0, 0), ("take", 4, 0, -1), ("take", 5, 0, 1), ("drop", 5, 0)):
            for keep in (0, 1, 8, 100):
                agent = self.agents()
                self.assertIsNone(agent.hear_cut(letter, keep))
                self.assertEqual(seen(agent), seen(self.agents()))

    def test_a_letter_that_raises(self):
        agent = self.agents()
        before = seen(agent)
        for keep in (0, 1, 10, 17, 18, 19, 100):
            self.assert_raises(OverLimit, {"where": -1}, agent.hear_cut, ("take", 9, 0, -1), keep)
            self.assert_raises(OverLimit, {"where": 0}, agent.hear_cut, ("take", 9, 0, 0), keep)
        self.assertEqual(seen(agent), before)


class LogTest(AgentTest):
    def assert_bad(self, text, line, group=0):
        self.assert_raises(BadLog, {"line": line}, Agent, NET, group, log=text)

    def test_a_log_that_is_cut(self):
        letters = [(3, 0), (12, -1), 5, (4, 1), 3, (6, 0), 12, (13, 2)]
        agent, moments = Agent(NET, 0), []
        for letter in [None, *letters]:
            if letter is not None:
                heard(agent, letter)
            moments.append(seen(agent))
        text = agent.log
        self.assertEqual(text.count("\n"), len(letters))
        for at in range(len(text) + 1):
            again = Agent(NET, 0, log=text[:at])
            self.assertEqual(seen(again), moments[text[:at].count("\n")])
            self.assertEqual(again.log, text[:text[:at].rfind("\n") + 1])
            heard(again, *letters)
            self.assertEqual(seen(again), moments[-1])

    def test_what_the_reading_finds_comes_first(self):
        text = log_of("take 0 0 0", "no deed")
        self.assert_bad(text, 1)
        self.assert_bad(text + "2 drop 0 000\n", 2)
        self.assert_bad(text + "\n", 2)
        self.assert_bad(text + "2 drop 0", 1)
        self.assert_bad("0 drop 0 001\n", 0)
        self.assert_bad("no log\n", 0)

    def test_other_forms(self):
        for body in (
            "take", "take 0", "take 0 0", "take 0 0 0 0", "drop", "drop 0 0", "drop *", "drop x", "Take 0 0 0",
            "DROP 0",
            "take  0 0 0", "take 0  0 0", " take 0 0 0", "take 0 0 0 ", " drop 0", "drop 0 ", "drop  0", "given 0 0 0",
            "take 00 0 0", "take 0 00 0", "take 0 0 00", "drop 00", "drop 01", "take 01 0 0", "take -1 0 0", "drop -1",
            "take +1 0 0", "drop +1", "take 0 -1 0", "take 0 0 -1", "take 0 + 0", "take 0 0 *", "take * 0 0",
            "take 0 ** 0",
            "take 0 3 0", "take 0 4 0", "take 0 5 0", "take 0 10 0", "take 0 x 0", "take 0 0 x", "take 0,0 0",
            "come 0 0",
            "take 1.0 0 0", "drop 1e3", "take 0 01 0", " ", "0", "dropped 0 0", "take 0 0 0\\n",
        ):
            self.assert_bad(log_of(body), 0)
            self.assert_bad(log_of("take 9 1 0", body, "drop 9"), 1)
        for body in ("take 0 0 0", "take 0 * 0", "take 0 2 0", "drop 0", "drop 10", "take 1234567890123 0 0"):
            self.assertEqual(Agent(NET, 0, log=log_of(body)).log, log_of(body))

    def test_cells_of_the_group(self):
        self.assertEqual(Agent(NET, 1, log=log_of("take 0 0 0")).calls(), [(0, 0, 0)])
        for where in (1, 2, 3, 4):
            self.assert_bad(log_of(f"take 0 {where} 0"), 0, group=1)

    def test_what_could_not_be_written(self):
        for bodies in (
            ["take 0 0 0", "take 0 0 1"], ["take 0 0 0", "take 0 0 0"], ["take 0 0 0", "take 0 1 0"],
            ["take 0 0 0", "drop 0", "take 0 0 0"], ["drop 0", "take 0 0 0"], ["drop 0", "drop 0"],
            ["take 0 0 0", "drop 0", "drop 0"], ["take 0 2 0", "take 1 2 1"], ["take 0 * 0", "take 1 2 1"],
            ["take 0 0 0", "take 1 0 1", "take 2 * 2"], ["take 0 0 1"], ["take 0 * 1"], ["take 0 0 4"], ["take 0 0 24"],
            ["take 0 0 0", "take 1 0 0"], ["take 0 0 0", "take 1 1 1"], ["take 0 * 0", "take 1 0 0"], ["take 0 0 100"],
        ):
            self.assert_bad(log_of(*bodies), len(bodies) - 1)
            self.assert_bad(log_of(*bodies, "drop 50"), len(bodies) - 1)
        self.assertEqual(Agent(NET, 0, log=log_of("take 0 0 0", "take 1 1 0", "drop 0", "drop 2")).ended(), [0, 2])

    def test_every_sign_replaced(self):
        draw = random.Random(66)
        text = heard(Agent(NET, 0), (3, 0), (12, -1), 5, 3).log
        for at, sign in enumerate(text):
            if sign != "\n":
                for other in draw.sample([chr(code) for code in range(32, 127) if chr(code) != sign], 8):
                    self.assert_bad(text[:at] + other + text[at + 1:], text[:at].count("\n"))

    def test_drawn_letters(self):
        draw = random.Random(67)
        for _ in range(30):
            agent, wheres = Agent(NET, 0), {}
            for _ in range(40):
                number = draw.randrange(12)
                where = wheres.setdefault(number, draw.randrange(-1, 3))
                letter = draw.choice((("take", number, 0, where), ("take", number, 0, where), ("drop", number, 0)))
                before = seen(agent)
                try:
                    agent.hear_cut(letter, draw.choice((5, 1000)))
                except OverLimit:
                    self.assertEqual(seen(agent), before)
                self.assertTrue(is_safe(NET.house_of(0), agent.state))
            self.assertEqual(seen(Agent(NET, 0, log=agent.log + "9 ")), seen(agent))


if __name__ == "__main__":
    unittest.main()
