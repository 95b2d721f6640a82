"""mix and ends."""

import unittest
from fractions import Fraction as F

from tests.asking import (
    BIG_PRIMES, ENDS, FEE, FLOW, GREATEST, LINE, MADE, MIX, OPEN, RATE, USED,
    Draw, ask, drawn_sound_net, fractions, last, net, reckoned, told,
)


class Refusals(unittest.TestCase):
    def each(self, calls, node, answer):
        for place in (MIX, ENDS):
            self.assertEqual(last(*calls, (place, node)), answer, (place, node))

    def test_beyond_the_range(self):
        for node in (0, 9, -1, 10 ** 18, -10 ** 18):
            self.each([(OPEN, 8)], node, [-1])

    def test_a_node_that_is_not_there(self):
        for nodes in range(1, 8):
            self.each([(OPEN, nodes)], nodes + 1, [-5])
            self.each([(OPEN, nodes)], 8, [-5])

    def test_not_balanced(self):
        self.each([(OPEN, 2), (MADE, 1, 1)], 1, [-8])
        self.each([(OPEN, 2), (MADE, 1, 1)], 2, [-8])
        self.each([(OPEN, 2), (USED, 2, 1)], 1, [-8])
        self.each(net(2, {1: 5}, {2: 5}, [(1, 2, 5, 4)]), 1, [-8])
        self.each(net(2, {1: 5}, {2: 4}, [(1, 2, 4, 4)]), 2, [-8])

    def test_excesses_that_cancel_are_not_balanced(self):
        self.each([(OPEN, 2), (MADE, 1, 1), (USED, 2, 1)], 1, [-8])

    def test_one_unit_at_the_greatest_amounts(self):
        self.each(net(2, {1: GREATEST}, {2: GREATEST}, [(1, 2, GREATEST, GREATEST - 1)]), 2, [-8])

    def test_a_balanced_ring(self):
        self.each(net(2, {}, {}, [(1, 2, 5, 5), (2, 1, 5, 5)]), 1, [-8])
        self.each(net(3, {1: 3}, {2: 3}, [(1, 2, 5, 5), (2, 1, 2, 2)]), 3, [-8])
        ring = [(k, k % 8 + 1, 7, 7) for k in range(1, 9)]
        self.each(net(8, {}, {}, ring), 4, [-8])

    def test_a_ring_over_which_nothing_comes(self):
        self.each(net(2, {1: 5, 2: 5}, {}, [(1, 2, 5, 0), (2, 1, 5, 0)]), 1, [-8])

    def test_a_ring_that_is_not_balanced(self):
        self.each(net(2, {1: 1}, {}, [(1, 2, 5, 5), (2, 1, 5, 5)]), 1, [-8])

    def test_which_comes_first(self):
        unsound = [(OPEN, 2), (MADE, 1, 1)]
        self.each(unsound, 9, [-1])
        self.each(unsound, 0, [-1])
        self.each(unsound, 3, [-5])
        self.each(unsound, 2, [-8])

    def test_changes_nothing(self):
        unsound = [(OPEN, 2), (MADE, 1, 6)]
        self.assertEqual(last(*unsound, (MIX, 1), (ENDS, 1), (USED, 1, 6), (MIX, 1)), told(1, 0))


class Mix(unittest.TestCase):
    def asked(self, calls, node):
        return last(*calls, (MIX, node))

    def test_nothing_goes_through(self):
        for nodes in (1, 8):
            self.assertEqual(self.asked([(OPEN, nodes)], nodes), told(*[0] * nodes))
        self.assertEqual(self.asked([(OPEN, 2)], 1), [0, 0, 1, 0, 1])

    def test_nothing_goes_through_one_of_them(self):
        calls = net(3, {1: 5}, {3: 5}, [(1, 3, 5, 5), (1, 2, 0, 0), (2, 3, 0, 0)])
        self.assertEqual(self.asked(calls, 2), told(0, 0, 0))
        self.assertEqual(self.asked(calls, 3), told(1, 0, 0))

    def test_made_and_used_in_one(self):
        self.assertEqual(self.asked(net(2, {2: 9}, {2: 9}, []), 2), told(0, 1))
        self.assertEqual(self.asked(net(2, {2: 9}, {2: 9}, []), 1), told(0, 0))

    def test_two_that_make(self):
        calls = net(3, {1: 6, 2: 4}, {3: 10}, [(1, 3, 6, 6), (2, 3, 4, 4)])
        self.assertEqual(self.asked(calls, 3), [0, 3, 5, 2, 5, 0, 1])
        self.assertEqual(self.asked(calls, 1), told(1, 0, 0))

    def test_made_there_too(self):
        calls = net(2, {1: 6, 2: 3}, {2: 9}, [(1, 2, 6, 6)])
        self.assertEqual(self.asked(calls, 2), told(F(2, 3), F(1, 3)))

    def test_losses(self):
        calls = net(3, {1: 10, 2: 5}, {3: 9}, [(1, 3, 10, 4), (2, 3, 5, 5)])
        self.assertEqual(self.asked(calls, 3), told(F(4, 9), F(5, 9), 0))

    def test_something_is_sent_and_nothing_comes(self):
        calls = net(3, {1: 10, 2: 5}, {3: 5}, [(1, 3, 10, 0), (2, 3, 5, 5)])
        self.assertEqual(self.asked(calls, 3), told(0, 1, 0))
        self.assertEqual(self.asked(net(2, {1: 10}, {}, [(1, 2, 10, 0)]), 2), told(0, 0))

    def test_several_lines_between_the_same_nodes(self):
        calls = net(2, {1: 10, 2: 1}, {2: 8}, [(1, 2, 3, 3), (1, 2, 5, 4), (1, 2, 2, 0)])
        self.assertEqual(self.asked(calls, 2), told(F(7, 8), F(1, 8)))

    def test_lines_against_the_numbering(self):
        calls = net(3, {3: 4, 2: 4}, {1: 8}, [(2, 1, 8, 8), (3, 2, 4, 4)])
        self.assertEqual(self.asked(calls, 1), told(0, F(1, 2), F(1, 2)))

    def test_by_two_ways(self):
        calls = net(4, {1: 12, 3: 4}, {2: 2, 4: 12}, [(1, 2, 6, 6), (1, 3, 6, 5), (2, 4, 4, 4), (3, 4, 9, 8)])
        self.assertEqual(self.asked(calls, 4), told((4 + 8 * F(5, 9)) / 12, 0, (8 * F(4, 9)) / 12, 0))

    def test_a_ring_in_which_nothing_is_sent_over_one_line(self):
        for idle_first in (False, True):
            lines = [(1, 2, 5, 5), (2, 3, 5, 4)]
            lines = [(3, 1, 0, 0)] + lines if idle_first else lines + [(3, 1, 0, 0)]
            calls = net(3, {1: 5}, {3: 4}, lines)
            self.assertEqual(self.asked(calls, 3), told(1, 0, 0))
            self.assertEqual(last(*calls, (ENDS, 1)), told(0, 0, F(4, 5)))


class Ends(unittest.TestCase):
    def asked(self, calls, node):
        return last(*calls, (ENDS, node))

    def test_nothing_goes_through(self):
        for nodes in (1, 8):
            self.assertEqual(self.asked([(OPEN, nodes)], nodes), told(*[0] * nodes))
        calls = net(3, {1: 5}, {3: 5}, [(1, 3, 5, 5), (1, 2, 0, 0), (2, 3, 0, 0)])
        self.assertEqual(self.asked(calls, 2), [0, 0, 1, 0, 1, 0, 1])

    def test_made_and_used_in_one(self):
        self.assertEqual(self.asked(net(2, {2: 9}, {2: 9}, []), 2), told(0, 1))

    def test_two_that_use(self):
        calls = net(3, {1: 10}, {2: 6, 3: 4}, [(1, 2, 6, 6), (1, 3, 4, 4)])
        self.assertEqual(self.asked(calls, 1), [0, 0, 1, 3, 5, 2, 5])
        self.assertEqual(self.asked(calls, 2), told(0, 1, 0))

    def test_used_there_too(self):
        calls = net(2, {1: 9}, {1: 3, 2: 6}, [(1, 2, 6, 6)])
        self.assertEqual(self.asked(calls, 1), told(F(1, 3), F(2, 3)))

    def test_losses_end_nowhere(self):
        calls = net(3, {1: 10}, {2: 3, 3: 1}, [(1, 2, 5, 3), (1, 3, 5, 1)])
        self.assertEqual(self.asked(calls, 1), told(0, F(3, 10), F(1, 10)))

    def test_something_is_sent_and_nothing_comes(self):
        calls = net(3, {1: 10, 2: 7}, {2: 7, 3: 6}, [(1, 2, 4, 0), (1, 3, 6, 6)])
        self.assertEqual(self.asked(calls, 1), told(0, 0, F(3, 5)))
        self.assertEqual(self.asked(net(2, {1: 10}, {}, [(1, 2, 10, 0)]), 1), told(0, 0))

    def test_several_lines_between_the_same_nodes(self):
        calls = net(2, {1: 10}, {2: 7}, [(1, 2, 3, 3), (1, 2, 5, 4), (1, 2, 2, 0)])
        self.assertEqual(self.asked(calls, 1), told(0, F(7, 10)))

    def test_by_two_ways(self):
        calls = net(4, {1: 12}, {2: 2, 3: 1, 4: 7}, [(1, 2, 6, 6), (1, 3, 6, 5), (2, 4, 4, 3), (3, 4, 4, 4)])
        self.assertEqual(self.asked(calls, 1), told(0, F(2, 12), F(1, 12), F(7, 12)))
        self.assertEqual(self.asked(calls, 3), told(0, 0, F(1, 5), F(4, 5)))


class Great(unittest.TestCase):
    def chain(self):
        """All 8 nodes in a row; each makes a great prime, and sends on nearly the greatest amount."""
        made = {node: BIG_PRIMES[node - 1] for node in range(1, 9)}
        used, lines, came = {}, [], 0
        for node in range(1, 8):
            sent = min(GREATEST, made[node] + came) - node
            used[node] = made[node] + came - sent
            came = sent - 11 * node
            lines.append((node, node + 1, sent, came))
        # The last node can use the greatest amount at the most, so it makes what is lacking of it.
        made[8] = GREATEST - came
        used[8] = GREATEST
        return made, used, lines

    def test_a_chain_over_all_nodes(self):
        made, used, lines = self.chain()
        calls = net(8, made, used, lines)
        through = {node: made[node] + sum(line[3] for line in lines if line[1] == node) for node in made}
        share, end = [], []
        for node in range(1, 9):
            on_the_way = F(1)
            for _, to, _, comes in lines[node - 1:]:
                on_the_way *= F(comes, through[to])
            share.append(F(made[node], through[node]) * on_the_way)
            on_the_way = F(1)
            for origin, _, _, comes in lines[:node - 1]:
                on_the_way *= F(comes, through[origin])
            end.append(on_the_way * F(used[node], through[node]))
        self.assertEqual(last(*calls, (MIX, 8)), told(*share))
        self.assertEqual(last(*calls, (ENDS, 1)), told(*end))
        self.assertEqual(sum(share), 1)
        self.assertGreater(max(last(*calls, (MIX, 8))), 10 ** 50)

    def test_a_chain_of_greatest_amounts_without_loss(self):
        lines = [(node, node + 1, GREATEST, GREATEST) for node in range(1, 8)]
        calls = net(8, {1: GREATEST}, {8: GREATEST}, lines)
        for node in range(1, 9):
            self.assertEqual(last(*calls, (MIX, node)), told(1, *[0] * 7))
            self.assertEqual(last(*calls, (ENDS, node)), told(*[0] * 7, 1))

    def test_a_chain_of_greatest_amounts_of_which_hardly_any_comes(self):
        made = {node: GREATEST - 1 for node in range(2, 8)}
        made[1] = GREATEST
        lines = [(node, node + 1, GREATEST, 1) for node in range(1, 8)]
        calls = net(8, made, {8: 1}, lines)
        self.assertEqual(last(*calls, (MIX, 8))[1:3], [1, GREATEST ** 6])
        self.assertEqual(last(*calls, (ENDS, 1)), told(*[0] * 7, F(1, GREATEST ** 7)))

    def test_all_lines_in_and_out_of_one_node(self):
        made = {node: GREATEST for node in range(1, 8)}
        lines = [(node, 7, GREATEST, GREATEST) for node in range(1, 7)]
        lines += [(7, 8, GREATEST, k) for k in (GREATEST // 2, 0, 1, 2, 3, GREATEST // 2 - 6)]
        calls = net(8, made, {7: GREATEST, 8: GREATEST}, lines)
        self.assertEqual(last(*calls, (MIX, 8)), told(*[F(1, 7)] * 7, 0))
        self.assertEqual(last(*calls, (ENDS, 3)), told(*[0] * 6, F(1, 7), F(1, 7)))

    def test_twelve_lines_between_two(self):
        lines = [(2, 1, k, k - 1) for k in range(1, 13)]
        calls = net(2, {2: 78}, {1: 66}, lines)
        self.assertEqual(last(*calls, (MIX, 1)), told(0, 1))
        self.assertEqual(last(*calls, (ENDS, 2)), told(F(66, 78), 0))

    def test_two_hundred_calls(self):
        calls = net(8, *self.chain())
        asked = [(MIX, 8), (ENDS, 1)] * ((200 - len(calls)) // 2)
        found = ask(*calls, *asked)[len(calls):]
        self.assertEqual(found, ask(*calls, (MIX, 8), (ENDS, 1))[-2:] * (len(asked) // 2))


class Asking(unittest.TestCase):
    def test_changes_nothing(self):
        calls = net(3, {1: 10, 2: 5}, {3: 9}, [(1, 3, 10, 4), (2, 3, 5, 5)])
        first, second, third, fourth = ask(*calls, (MIX, 3), (ENDS, 1), (MIX, 3), (ENDS, 1))[-4:]
        self.assertEqual((first, second), (third, fourth))

    def test_as_the_net_is_now(self):
        self.assertEqual(ask((OPEN, 2), (MADE, 1, 4), (MIX, 2), (LINE, 1, 2), (FLOW, 1, 4, 2), (MIX, 2),
                             (USED, 2, 2), (MIX, 2), (ENDS, 1), (MADE, 2, 2), (MIX, 2), (USED, 2, 4), (MIX, 2),
                             (RATE, 1, 5), (FEE, 1, 5), (MIX, 2), (LINE, 2, 1), (ENDS, 1)),
                         [[0], [0], [-8], [0, 1], [0], [-8], [0], told(1, 0), told(0, F(1, 2)), [0], [-8], [0],
                          told(F(1, 2), F(1, 2)), [0], [0], told(F(1, 2), F(1, 2)), [0, 2], told(0, F(1, 2))])


class DrawnNets(unittest.TestCase):
    def test_as_reckoned_and_up_as_down(self):
        draw = Draw(7)
        for greatest in [3, 12, 1000, GREATEST] * 60:
            calls = drawn_sound_net(draw, greatest)
            nodes = range(1, calls[0][1] + 1)
            asked = calls + [(place, node) for place in (MIX, ENDS) for node in nodes]
            found = ask(*asked)
            self.assertEqual(found, reckoned(*asked), calls)
            made = {call[1]: call[2] for call in calls if call[0] == MADE}
            used = {call[1]: call[2] for call in calls if call[0] == USED}
            shares = [fractions(answer) for answer in found[len(calls):len(calls) + len(nodes)]]
            ends = [fractions(answer) for answer in found[len(calls) + len(nodes):]]
            for a in nodes:
                self.assertIn(sum(shares[a - 1]), (0, 1))
                for b in nodes:
                    self.assertEqual(used[b] * shares[b - 1][a - 1], made[a] * ends[a - 1][b - 1], calls)


if __name__ == "__main__":
    unittest.main()
