"""ways."""

import unittest

from tests.asking import (
    FLOW, LINE, MADE, OPEN, USED, WAYS, Draw, ask, drawn_sound_net, great_net, last, net, reckoned,
)


def balanced(nodes, lines):
    """A net with these lines in which each node makes what it lacks and uses what it has over."""
    made, used = {}, {}
    for node in range(1, nodes + 1):
        came = sum(line[3] for line in lines if line[1] == node)
        sent = sum(line[2] for line in lines if line[0] == node)
        made[node] = max(sent - came, 0)
        used[node] = max(came - sent, 0)
    return net(nodes, made, used, lines)


class Ways(unittest.TestCase):
    def asked(self, calls, a, b):
        answer = last(*calls, (WAYS, a, b))
        self.assertEqual((len(answer), answer[0]), (2, 0))
        return answer[1]

    def test_to_itself(self):
        for nodes in (1, 8):
            for node in (1, nodes):
                self.assertEqual(self.asked([(OPEN, nodes)], node, node), 1)
        calls = balanced(3, [(1, 2, 1, 1), (2, 3, 1, 1)])
        for node in (1, 2, 3):
            self.assertEqual(self.asked(calls, node, node), 1)

    def test_no_way(self):
        self.assertEqual(self.asked([(OPEN, 2)], 1, 2), 0)
        calls = balanced(4, [(1, 2, 1, 1), (3, 4, 1, 1)])
        self.assertEqual([self.asked(calls, 1, b) for b in (1, 2, 3, 4)], [1, 1, 0, 0])
        self.assertEqual([self.asked(calls, 4, b) for b in (1, 2, 3, 4)], [0, 0, 0, 1])

    def test_not_against_a_line(self):
        calls = balanced(2, [(2, 1, 3, 3)])
        self.assertEqual(self.asked(calls, 2, 1), 1)
        self.assertEqual(self.asked(calls, 1, 2), 0)

    def test_several_lines_between_the_same_nodes(self):
        for count in range(1, 13):
            self.assertEqual(self.asked(balanced(2, [(1, 2, 2, 1)] * count), 1, 2), count)

    def test_over_several_nodes(self):
        calls = balanced(3, [(1, 2, 1, 1), (1, 2, 1, 1), (2, 3, 1, 1), (2, 3, 1, 1), (2, 3, 1, 1), (1, 3, 1, 1)])
        self.assertEqual(self.asked(calls, 1, 3), 7)
        self.assertEqual(self.asked(calls, 2, 3), 3)

    def test_against_the_numbering(self):
        calls = balanced(4, [(2, 1, 1, 1), (4, 2, 2, 2), (3, 1, 1, 1), (4, 3, 1, 1), (4, 1, 1, 1)])
        self.assertEqual(self.asked(calls, 4, 1), 3)
        self.assertEqual(self.asked(calls, 1, 4), 0)

    def test_something_is_sent_and_nothing_comes(self):
        self.assertEqual(self.asked(balanced(2, [(1, 2, 5, 0)]), 1, 2), 0)
        calls = balanced(3, [(1, 2, 5, 0), (1, 2, 5, 1), (2, 3, 1, 1), (2, 3, 1, 0)])
        self.assertEqual(self.asked(calls, 1, 2), 1)
        self.assertEqual(self.asked(calls, 1, 3), 1)
        calls = balanced(3, [(1, 2, 5, 0), (2, 3, 4, 4)])
        self.assertEqual(self.asked(calls, 1, 3), 0)
        self.assertEqual(self.asked(calls, 2, 3), 1)

    def test_nothing_is_sent(self):
        calls = balanced(3, [(1, 2, 0, 0), (2, 1, 0, 0), (2, 3, 0, 0)])
        self.assertEqual([self.asked(calls, a, b) for a in (1, 2, 3) for b in (1, 2, 3)], [1, 0, 0, 0, 1, 0, 0, 0, 1])

    def test_how_much_comes_is_all_the_same(self):
        self.assertEqual(self.asked(balanced(2, [(1, 2, 10 ** 9, 10 ** 9)]), 1, 2), 1)
        self.assertEqual(self.asked(balanced(2, [(1, 2, 10 ** 9, 1)]), 1, 2), 1)

    def test_all_lines_and_many_ways(self):
        threefold = [(node, node + 1, 1, 1) for node in range(1, 5) for _ in range(3)]
        self.assertEqual(self.asked(balanced(5, threefold), 1, 5), 81)
        self.assertEqual(self.asked(balanced(5, list(reversed(threefold))), 1, 5), 81)
        twofold = [(node, node + 1, 1, 1) for node in range(1, 7) for _ in range(2)]
        self.assertEqual(self.asked(balanced(8, twofold), 1, 7), 64)
        self.assertEqual(self.asked(balanced(8, twofold), 1, 8), 0)

    def test_a_chain_over_all_nodes(self):
        calls = net(8, *great_net())
        self.assertEqual(ask(*calls, *[(WAYS, 1, b) for b in range(1, 9)])[len(calls):],
                         [[0, count] for count in (1, 1, 2, 3, 5, 8, 13, 13)])
        self.assertEqual(ask(*calls, *[(WAYS, 8, b) for b in range(1, 9)])[len(calls):],
                         [[0, count] for count in (0, 0, 0, 0, 0, 0, 0, 1)])

    def test_as_the_net_is_now(self):
        self.assertEqual(ask((OPEN, 2), (WAYS, 1, 2), (LINE, 1, 2), (WAYS, 1, 2), (MADE, 1, 2), (WAYS, 1, 1),
                             (FLOW, 1, 2, 1), (USED, 2, 1), (WAYS, 1, 2), (FLOW, 1, 2, 0), (USED, 2, 0), (WAYS, 1, 2)),
                         [[0], [0, 0], [0, 1], [0, 0], [0], [-8], [0], [0], [0, 1], [0], [0], [0, 0]])

    def test_drawn_nets_as_reckoned(self):
        draw = Draw(31)
        most = 0
        for greatest in [2, 5, 1000] * 60:
            calls = drawn_sound_net(draw, greatest)
            nodes = range(1, calls[0][1] + 1)
            asked = [(WAYS, a, b) for a in nodes for b in nodes]
            found = ask(*calls, *asked)
            self.assertEqual(found, reckoned(*calls, *asked), calls)
            most = max(most, *[answer[1] for answer in found[len(calls):]])
        self.assertGreater(most, 5)


if __name__ == "__main__":
    unittest.main()
