"""The post: letters under way between one ledger and the agents of all groups."""

from unmovedways.agents import Agent
from unmovedways.errors import NoLetter
from unmovedways.ledger import Ledger
from unmovedways.nets import check_net

TO_AGENTS = ("take", "drop")


class Post:
    """Carries the letters of a ledger and its agents, in any order, twice or never."""

    def __init__(self, net):
        check_net(net)
        self.ledger = Ledger(net)
        self.agents = [Agent(net, group) for group in range(len(net.groups))]
        self._letters = []

    @property
    def letters(self):
        return list(self._letters)

    def ask(self, route):
        """Asks the ledger for a route, and sends the letters of its booking."""
        number = self.ledger.ask(route)
        self._send_letters_of(number)
        return number

    def end(self, number):
        """Ends a booking, and sends the letters of it."""
        self.ledger.end(number)
        self._send_letters_of(number)

    def _send_letters_of(self, number):
        self._letters.extend([letter for letter in self.ledger.unanswered() if letter[1] == number])

    def resend(self):
        """Sends all letters that are unanswered."""
        self._letters.extend(self.ledger.unanswered())

    def deliver(self, index):
        """Takes a letter to its agent, who answers, or to the ledger."""
        letter = self._taken(index)
        if letter[0] in TO_AGENTS:
            self._letters.append(self.agents[letter[2]].hear(letter))
        else:
            self.ledger.hear(letter)

    def double(self, index):
        """Sends the same letter once more."""
        self._letters.append(self._letter(index))

    def lose(self, index):
        """Takes a letter out, which reaches nobody."""
        self._taken(index)

    def cut(self, index, keep):
        """Takes a letter to its agent, who breaks off while it writes, or to the ledger as usual."""
        letter = self._taken(index)
        if letter[0] in TO_AGENTS:
            self.agents[letter[2]].hear_cut(letter, keep)
        else:
            self.ledger.hear(letter)

    def settle(self):
        """Sends what is unanswered, and delivers until no letter is under way."""
        self.resend()
        while len(self._letters) > 0:
            self.deliver(0)

    def _letter(self, index):
        if not 0 <= index < len(self._letters):
            raise NoLetter(index)
        return self._letters[index]

    def _taken(self, index):
        letter = self._letter(index)
        del self._letters[index]
        return letter
