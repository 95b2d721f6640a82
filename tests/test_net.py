"""excesses and ringless."""

import unittest

from tests.asking import EXCESSES, FLOW, GREATEST, LINE, MADE, OPEN, RINGLESS, USED, ask, last, net


class Excesses(unittest.TestCase):
    def asked(self, nodes, made, used, lines):
        return last(*net(nodes, made, used, lines), (EXCESSES,))

    def test_made_less_used(self):
        self.assertEqual(self.asked(3, {1: 5, 2: 4}, {1: 2, 3: 7}, []), [0, 3, 4, -7])

    def test_several_lines_in_and_out(self):
        lines = [(1, 3, 10, 8), (2, 3, 6, 6), (1, 3, 4, 1), (3, 4, 7, 5), (3, 5, 2, 0), (3, 4, 1, 1)]
        self.assertEqual(self.asked(5, {1: 14, 2: 5, 3: 2}, {3: 9, 4: 6, 5: 1}, lines), [0, 0, -1, -2, 0, -1])

    def test_what_is_lost_comes_nowhere(self):
        self.assertEqual(self.asked(2, {1: 10}, {2: 4}, [(1, 2, 10, 4)]), [0, 0, 0])
        self.assertEqual(self.asked(2, {1: 10}, {2: 10}, [(1, 2, 10, 4)]), [0, 0, -6])

    def test_the_greatest_both_ways(self):
        lines = [(1, 2, GREATEST, GREATEST)] * 12
        self.assertEqual(self.asked(2, {2: GREATEST}, {1: GREATEST}, lines), [0, -13 * GREATEST, 13 * GREATEST])

    def test_around_a_ring(self):
        self.assertEqual(self.asked(2, {}, {}, [(1, 2, 5, 4), (2, 1, 3, 3)]), [0, -2, 1])

    def test_changes_nothing(self):
        calls = net(2, {1: 5}, {2: 3}, [(1, 2, 4, 3)])
        self.assertEqual(ask(*calls, (EXCESSES,), (EXCESSES,), (LINE, 2, 1), (EXCESSES,))[-4:],
                         [[0, 1, 0], [0, 1, 0], [0, 2], [0, 1, 0]])


class Ringless(unittest.TestCase):
    def asked(self, nodes, lines, made=(), used=()):
        return last(*net(nodes, dict(made), dict(used), lines), (RINGLESS,))

    def test_no_lines(self):
        for nodes in (1, 2, 8):
            self.assertEqual(self.asked(nodes, []), [0, 1])

    def test_one_line(self):
        self.assertEqual(self.asked(2, [(1, 2, 1, 1)]), [0, 1])
        self.assertEqual(self.asked(2, [(2, 1, 1, 1)]), [0, 1])

    def test_two_nodes(self):
        self.assertEqual(self.asked(2, [(1, 2, 1, 1), (2, 1, 1, 1)]), [0, 0])
        self.assertEqual(self.asked(8, [(7, 8, 1, 1), (8, 7, 1, 1)]), [0, 0])

    def test_what_is_sent_counts_not_what_comes(self):
        self.assertEqual(self.asked(2, [(1, 2, 1, 0), (2, 1, 1, 0)]), [0, 0])
        self.assertEqual(self.asked(2, [(1, 2, GREATEST, 0), (2, 1, 1, 1)]), [0, 0])

    def test_every_length(self):
        for length in range(2, 9):
            ring = [(k, k % length + 1, 1, 1) for k in range(1, length + 1)]
            self.assertEqual(self.asked(8, ring), [0, 0])
            back = [(to, origin, sent, comes) for origin, to, sent, comes in reversed(ring)]
            self.assertEqual(self.asked(8, back), [0, 0])

    def test_one_line_over_which_nothing_is_sent(self):
        for length in range(2, 9):
            for idle in range(1, length + 1):
                ring = [(k, k % length + 1, int(k != idle), 0) for k in range(1, length + 1)]
                self.assertEqual(self.asked(8, ring), [0, 1], (length, idle))

    def test_several_lines_between_the_same_nodes(self):
        self.assertEqual(self.asked(2, [(1, 2, 1, 1)] * 12), [0, 1])
        self.assertEqual(self.asked(2, [(1, 2, 1, 1), (2, 1, 0, 0), (1, 2, 2, 0)]), [0, 1])
        self.assertEqual(self.asked(2, [(1, 2, 1, 1), (2, 1, 0, 0), (2, 1, 2, 0)]), [0, 0])

    def test_two_ways_to_one_node_are_no_ring(self):
        self.assertEqual(self.asked(4, [(1, 2, 1, 1), (1, 3, 1, 1), (2, 4, 1, 1), (3, 4, 1, 1), (1, 4, 1, 1)]), [0, 1])

    def test_a_ring_with_ways_to_it_and_from_it(self):
        lines = [(1, 2, 1, 1), (2, 3, 1, 1), (3, 4, 1, 1), (4, 2, 1, 1), (4, 5, 1, 1)]
        self.assertEqual(self.asked(5, lines), [0, 0])
        self.assertEqual(self.asked(5, lines[:3] + lines[4:]), [0, 1])

    def test_a_ring_among_nodes_that_nothing_reaches(self):
        self.assertEqual(self.asked(6, [(1, 2, 1, 1), (5, 6, 1, 1), (6, 5, 1, 1)]), [0, 0])

    def test_balance_has_nothing_to_do_with_it(self):
        self.assertEqual(self.asked(2, [(1, 2, 5, 5)], {1: 5}, {2: 5}), [0, 1])
        self.assertEqual(self.asked(2, [(1, 2, 5, 5)], {1: 4}, {2: 9}), [0, 1])
        self.assertEqual(self.asked(2, [(1, 2, 5, 5), (2, 1, 5, 5)]), [0, 0])
        self.assertEqual(self.asked(2, [(1, 2, 5, 3), (2, 1, 1, 1)], {1: 4}), [0, 0])

    def test_as_the_flow_is_now(self):
        self.assertEqual(ask((OPEN, 2), (LINE, 1, 2), (LINE, 2, 1), (RINGLESS,), (FLOW, 1, 1, 1), (RINGLESS,),
                             (FLOW, 2, 1, 0), (RINGLESS,), (FLOW, 1, 0, 0), (RINGLESS,)),
                         [[0], [0, 1], [0, 2], [0, 1], [0], [0, 1], [0], [0, 0], [0], [0, 1]])

    def test_what_is_made_and_used_alone_is_no_ring(self):
        self.assertEqual(last((OPEN, 1), (MADE, 1, 5), (USED, 1, 5), (RINGLESS,)), [0, 1])


if __name__ == "__main__":
    unittest.main()
