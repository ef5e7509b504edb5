import random
import unittest
from itertools import combinations

from tests.test_nets import drawn_net
from unmovedways.converters import bare_counts, best_bare, best_chain, best_ring, fit_places
from unmovedways.need import is_safe
from unmovedways.nets import Net
from unmovedways.states import empty_state


def best_worth(worths, pairs):
    """The greatest sum of worths of indexes of which no pair is chosen, found by trying all choices."""
    best = 0
    for size in range(len(worths) + 1):
        for row in combinations(range(len(worths)), size):
            if not any(one in row and other in row for one, other in pairs):
                best = max(best, sum(worths[index] for index in row))
    return best


def best_worth_in_a_row(worths, ring=False):
    """The same for a chain or a ring, by what the first index leaves open."""
    if ring:
        return max(best_worth_in_a_row(worths[1:]), worths[0] + best_worth_in_a_row(worths[2:-1]))
    before, best = 0, 0
    for worth in worths:
        before, best = best, max(best, before + worth)
    return best


def all_lists(answer):
    """All lists of an answer."""
    rows = [answer] if isinstance(answer, list) else []
    return rows + [row for part in answer if isinstance(part, (list, tuple)) for row in all_lists(part)]


class RowsTest(unittest.TestCase):
    def assert_numbers(self, own, joins, worths):
        """Checks the numbers of a chain, and returns their sum."""
        self.assertEqual([type(own), type(joins)], [list, list])
        self.assertEqual([len(own), len(joins)], [len(worths), max(0, len(worths) - 1)])
        self.assertGreaterEqual(min([0, *own, *joins]), 0)
        for index, worth in enumerate(worths):
            beside = sum(joins[max(0, index - 1):index + 1])
            self.assertGreaterEqual(own[index] + beside, worth)
        return sum(own) + sum(joins)

    def assert_chosen(self, chosen, many, pairs):
        self.assertIs(type(chosen), list)
        self.assertEqual(chosen, sorted(set(chosen)))
        self.assertLessEqual(set(chosen), set(range(many)))
        self.assertFalse(any(one in chosen and other in chosen for one, other in pairs))

    def assert_no_shared_lists(self, answer):
        rows = all_lists(answer)
        self.assertEqual(len({id(row) for row in rows}), len(rows))

    def assert_chain(self, worths):
        with self.subTest(chain=worths):
            answer = best_chain(worths)
            self.assertEqual([type(answer), len(answer)], [tuple, 3])
            chosen, own, joins = answer
            self.assert_chosen(chosen, len(worths), [(at, at + 1) for at in range(len(worths) - 1)])
            worth = sum(worths[index] for index in chosen)
            self.assertEqual(worth, best_worth_in_a_row(worths))
            self.assertEqual(self.assert_numbers(own, joins, worths), worth)
            self.assert_no_shared_lists(answer)

    def assert_ring(self, worths):
        with self.subTest(ring=worths):
            answer = best_ring(worths)
            self.assertEqual([type(answer), len(answer)], [tuple, 3])
            chosen, without, within = answer
            self.assertEqual([type(without), len(without), type(within), len(within)], [tuple, 2, tuple, 2])
            self.assert_chosen(chosen, len(worths), [(at - 1, at) for at in range(1, len(worths))])
            self.assertNotEqual(chosen[:1] + chosen[-1:], [0, len(worths) - 1])
            worth = sum(worths[index] for index in chosen)
            self.assertEqual(worth, best_worth_in_a_row(worths, ring=True))
            self.assertLessEqual(self.assert_numbers(*without, worths[1:]), worth)
            self.assertLessEqual(worths[0] + self.assert_numbers(*within, worths[2:-1]), worth)
            self.assert_no_shared_lists(answer)


class ChainTest(RowsTest):
    def test_short_chains(self):
        self.assertEqual(best_chain([]), ([], [], []))
        self.assertEqual(best_chain([7]), ([0], [7], []))
        for worths in ([], [0], [1], [1000], [0, 0], [3, 5], [5, 3], [4, 4], [0, 1], [1000, 1000]):
            self.assert_chain(worths)

    def test_all_small_worths(self):
        for many in range(6):
            for number in range(4 ** many):
                worths = [number // 4 ** at % 4 for at in range(many)]
                self.assert_chain(worths)
                pairs = [(at, at + 1) for at in range(many - 1)]
                self.assertEqual(best_worth_in_a_row(worths), best_worth(worths, pairs))

    def test_long_chains(self):
        draw = random.Random(56)
        for worths in ([0] * 20, [1000] * 20, [1] * 19, list(range(20)), [1, 1000] * 10, [5, 9, 5, 0, 0] * 4):
            self.assert_chain(worths)
        for _ in range(200):
            self.assert_chain([draw.choice((0, 1, draw.randint(0, 1000))) for _ in range(draw.randint(6, 20))])

    def test_tuples_and_what_was_passed(self):
        worths = [3, 5, 4]
        self.assertEqual(sum(worths[index] for index in best_chain(tuple(worths))[0]), 7)
        best_chain(worths)
        self.assertEqual(worths, [3, 5, 4])


class RingTest(RowsTest):
    def test_rings_of_three(self):
        for worths in ([0, 0, 0], [1, 1, 1], [3, 1, 2], [1, 2, 3], [1, 3, 2], [1000, 1000, 1000]):
            self.assert_ring(worths)
            self.assertEqual(best_ring(worths)[2], ([], []))

    def test_all_small_worths(self):
        for many in range(3, 7):
            for number in range(3 ** many):
                worths = [number // 3 ** at % 3 for at in range(many)]
                self.assert_ring(worths)
                pairs = [(at, (at + 1) % many) for at in range(many)]
                self.assertEqual(best_worth_in_a_row(worths, ring=True), best_worth(worths, pairs))

    def test_long_rings(self):
        draw = random.Random(57)
        for worths in ([0] * 20, [1000] * 20, [1] * 19, list(range(20)), [1000, 1] * 10, [1000, *[1] * 19], [1] * 20):
            self.assert_ring(worths)
        for _ in range(200):
            self.assert_ring([draw.choice((0, 1, draw.randint(0, 1000))) for _ in range(draw.randint(4, 20))])

    def test_tuples_and_what_was_passed(self):
        worths = [3, 5, 4, 1]
        self.assertEqual(best_ring(tuple(worths)), best_ring(worths))
        self.assertEqual(worths, [3, 5, 4, 1])


class FitTest(unittest.TestCase):
    def test_border_of_the_channels(self):
        for limits, least in (
            ((1, 1), 1), ((2, 2), 3), ((3, 3), 4), ((4, 1), 4), ((4, 2), 5), ((3, 5), 6), ((20, 7), 23),
        ):
            links = [(0, 1, limits[0]), (1, 2, limits[1])]
            for channels in range(25):
                fit = fit_places(Net(links, channels=channels))
                self.assertIs(type(fit), list)
                self.assertEqual(fit, [1] if channels >= least else [])

    def test_one_two_and_three_links(self):
        links = [(0, 1, 1), (1, 2, 1), (1, 3, 1), (3, 4, 1), (5, 4, 1), (7, 8, 1)]
        self.assertEqual(fit_places(Net(links)), [3, 4])
        self.assertEqual(fit_places(Net([(0, 1, 1)])), [])

    def test_two_links_between_two_places(self):
        links = [(0, 1, 2), (1, 0, 3), (1, 2, 1), (2, 3, 1)]
        self.assertEqual(fit_places(Net(links, channels=4)), [0, 2])
        self.assertEqual(fit_places(Net(links, channels=3)), [2])
        self.assertEqual(fit_places(Net([(5, 2, 2), (2, 5, 3)], channels=4)), [2, 5])

    def test_bare_places_have_no_influence(self):
        links = [(0, 1, 1), (1, 2, 1), (2, 3, 1), (3, 0, 1)]
        for bare in ([], [0], [1, 3], [0, 2]):
            net = Net(links, channels=1, bare=bare)
            self.assertEqual(fit_places(net), [0, 1, 2, 3])
            self.assertEqual(len(best_bare(net, [1, 2, 1, 2])), 2)
            self.assertEqual(best_bare(net, [1, 2, 1, 2]), [1, 3])
            self.assertEqual(bare_counts(net, 1), [-1, 2])


def joined_pairs(net):
    return {(one, other) for one, other, _ in net.links} | {(other, one) for one, other, _ in net.links}


def greatest_worth(net, worths):
    """The greatest worth of fit places that can be bare together, found by trying all choices."""
    fit, pairs, best = fit_places(net), joined_pairs(net), 0
    for size in range(len(fit) + 1):
        for row in combinations(fit, size):
            if not any(pair in pairs for pair in combinations(row, 2)):
                best = max(best, sum(worths[place] for place in row))
    return best


class BareTest(unittest.TestCase):
    def assert_bare(self, net, worths):
        chosen = best_bare(net, worths)
        self.assertIs(type(chosen), list)
        self.assertEqual(chosen, sorted(set(chosen)))
        self.assertLessEqual(set(chosen), set(fit_places(net)))
        self.assertFalse(any(pair in joined_pairs(net) for pair in combinations(chosen, 2)))
        self.assertEqual(sum(worths[place] for place in chosen), greatest_worth(net, worths))
        bare = Net(net.links, channels=net.channels, bare=chosen)
        for group, links in enumerate(bare.groups):
            house = bare.house_of(group)
            self.assertTrue(len(links) == 1 or is_safe(house, empty_state(house)))

    def test_example_of_the_interface(self):
        ring = Net([(0, 1, 1), (1, 2, 1), (0, 2, 1)], channels=1)
        self.assertEqual([best_bare(ring, [5, 4, 3]), bare_counts(ring, 2)], [[0], [-1, 1, 1]])

    def nets(self):
        """Chains, rings, rings of two links, several rows at once, and places with three links."""
        chain = [(0, 1, 1), (1, 2, 2), (2, 3, 3), (3, 4, 2), (4, 5, 1)]
        ring = [(6, 7, 1), (7, 8, 3), (8, 9, 1), (9, 10, 2), (10, 6, 2)]
        two = [(11, 12, 1), (12, 11, 2)]
        three = [(13, 14, 1), (14, 15, 1), (14, 16, 2), (16, 13, 2)]
        for links in (chain, ring, two, three, chain + ring, two + three, chain + ring + two + three, ring + two):
            for channels in range(6):
                yield Net(links, channels=channels)
                yield Net(list(reversed(links)), channels=channels)

    def test_rows_of_each_kind(self):
        draw = random.Random(58)
        for net in self.nets():
            for worths in ([0] * net.places, [1] * net.places, [draw.randint(0, 1000) for _ in range(net.places)]):
                self.assert_bare(net, worths)

    def test_twenty_places_in_a_row(self):
        draw = random.Random(61)
        for step in (1, 3, 7):
            row = [at * step % 20 for at in range(20)]
            chain = list(zip(row, row[1:], [1] * 19))
            for links, inner, is_ring in ((chain, row[1:-1], False), ([*chain, (row[-1], row[0], 1)], row, True)):
                net = Net(draw.sample(links, len(links)), channels=1)
                worths = [draw.randint(0, 1000) for _ in range(20)]
                chosen = best_bare(net, worths)
                wanted = best_worth_in_a_row([worths[place] for place in inner], ring=is_ring)
                self.assertEqual(sum(worths[place] for place in chosen), wanted)
                self.assertFalse(any(pair in joined_pairs(net) for pair in combinations(chosen, 2)))
                self.assertEqual(bare_counts(net, 1), [-1, 10 if is_ring else 9])

    def test_drawn_nets(self):
        draw = random.Random(59)
        for _ in range(150):
            net = drawn_net(draw, channels=draw.randint(1, 6))
            self.assert_bare(net, [draw.randint(0, 1000) for _ in range(net.places)])
            self.assert_bare(net, [draw.randint(0, 1) for _ in range(net.places)])

    def test_tuples_and_what_was_passed(self):
        net, worths = Net([(0, 1, 1), (1, 2, 1), (2, 3, 1)], channels=1), [9, 2, 3, 9]
        self.assertEqual([best_bare(net, worths), best_bare(net, tuple(worths))], [[2], [2]])
        self.assertEqual(worths, [9, 2, 3, 9])

    def test_counts(self):
        draw = random.Random(60)
        for net in [*self.nets(), *[drawn_net(draw) for _ in range(40)]]:
            counts = bare_counts(net, 24)
            self.assertIs(type(counts), list)
            self.assertEqual(len(counts), 25)
            self.assertEqual(counts, sorted(counts))
            self.assertEqual([bare_counts(net, 0), bare_counts(net, 3)], [counts[:1], counts[:4]])
            greatest = max(limit for _, _, limit in net.links)
            for channels, count in enumerate(counts[:8]):
                wider = Net(net.links, channels=channels)
                self.assertEqual(count == -1, channels < greatest)
                if count >= 0:
                    self.assertEqual(count, greatest_worth(wider, [1] * net.places))


if __name__ == "__main__":
    unittest.main()
