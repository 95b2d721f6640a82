"""lineIs and state."""

import unittest

from tests.asking import (
    FEE, FLOW, GREATEST, GREATEST_FEE, GREATEST_RATE, LINE, LINE_IS, MADE, OPEN, RATE, STATE, USED, ask, last, net,
)


class LineIs(unittest.TestCase):
    def test_a_new_line(self):
        self.assertEqual(last((OPEN, 3), (LINE, 3, 2), (LINE_IS, 1)), [0, 3, 2, 0, 0, 0])

    def test_all_that_it_has(self):
        self.assertEqual(last((OPEN, 3), (LINE, 1, 2), (LINE, 3, 2), (FLOW, 2, 9, 4), (FEE, 2, 7), (LINE_IS, 2)),
                         [0, 3, 2, 9, 4, 7])

    def test_each_of_twelve(self):
        lines = [(1 + k % 8, 1 + (k + 3) % 8, 100 + k, 50 + k) for k in range(12)]
        calls = net(8, {}, {}, lines, fees={k: 1000 - k for k in range(1, 13)})
        found = ask(*calls, *[(LINE_IS, k) for k in range(1, 13)])[len(calls):]
        self.assertEqual(found, [[0, *line, 1000 - k] for k, line in enumerate(lines, start=1)])

    def test_the_greatest(self):
        calls = [(OPEN, 8), (LINE, 8, 7), (FLOW, 1, GREATEST, GREATEST), (FEE, 1, GREATEST_FEE)]
        self.assertEqual(last(*calls, (LINE_IS, 1)), [0, 8, 7, GREATEST, GREATEST, GREATEST_FEE])

    def test_where_the_net_is_not_sound(self):
        ring = net(2, {1: 3}, {}, [(1, 2, 5, 4), (2, 1, 3, 0)], fees={2: 8})
        self.assertEqual(ask(*ring, (LINE_IS, 1), (LINE_IS, 2))[-2:], [[0, 1, 2, 5, 4, 0], [0, 2, 1, 3, 0, 8]])

    def test_behind_refused_calls(self):
        calls = [(OPEN, 2), (LINE, 1, 2), (FLOW, 1, 5, 3), (FEE, 1, 2)]
        refused = {(FLOW, 1, 4, 5): -7, (FLOW, 1, GREATEST + 1, 0): -1, (FLOW, 1, 0, -1): -1, (FLOW, 2, 0, 0): -6,
                   (FLOW, 13, 0, 0): -1, (FEE, 1, -1): -1, (FEE, 1, GREATEST_FEE + 1): -1, (FEE, 2, 0): -6,
                   (LINE, 1, 1): -7, (LINE, 2, 3): -5, (LINE, 9, 1): -1, (OPEN, 2): -3, (OPEN, 9): -1}
        for call, refusal in refused.items():
            self.assertEqual(ask(*calls, (LINE_IS, 1), call, (LINE_IS, 1), (LINE_IS, 2))[4:],
                             [[0, 1, 2, 5, 3, 2], [refusal], [0, 1, 2, 5, 3, 2], [-6]], call)


class State(unittest.TestCase):
    def test_a_new_house(self):
        for nodes in range(1, 9):
            self.assertEqual(last((OPEN, nodes), (STATE,)), [0, nodes, 0] + [0, 0, 0] * nodes)

    def test_all_that_it_has(self):
        calls = net(3, {1: 7, 3: 2}, {2: 6}, [(1, 2, 5, 4), (2, 3, 1, 1)], {1: 4, 3: -9}, {1: 8})
        self.assertEqual(last(*calls, (STATE,)), [0, 3, 2, 7, 0, 4, 0, 6, 0, 2, 0, -9])

    def test_how_many_lines(self):
        calls = [(OPEN, 2)]
        for count in range(1, 13):
            calls.append((LINE, 1 + count % 2, 2 - count % 2))
            self.assertEqual(last(*calls, (STATE,)), [0, 2, count] + [0] * 6)
        self.assertEqual(ask(*calls, (LINE, 1, 2), (STATE,))[-2:], [[-4], [0, 2, 12] + [0] * 6])

    def test_the_greatest(self):
        every = range(1, 9)
        calls = net(8, dict.fromkeys(every, GREATEST), dict.fromkeys(every, GREATEST), [],
                    {node: GREATEST_RATE * (-1) ** node for node in every})
        self.assertEqual(last(*calls, (STATE,)),
                         [0, 8, 0] + [GREATEST, GREATEST, -GREATEST_RATE, GREATEST, GREATEST, GREATEST_RATE] * 4)

    def test_where_the_net_is_not_sound(self):
        self.assertEqual(last((OPEN, 2), (USED, 2, 4), (STATE,)), [0, 2, 0, 0, 0, 0, 0, 4, 0])
        ring = net(2, {1: 3}, {}, [(1, 2, 5, 4), (2, 1, 3, 0)])
        self.assertEqual(last(*ring, (STATE,)), [0, 2, 2, 3, 0, 0, 0, 0, 0])

    def test_behind_refused_calls(self):
        calls = [(OPEN, 2), (LINE, 1, 2), (MADE, 1, 5), (USED, 2, 6), (RATE, 1, -7)]
        state = [0, 2, 1, 5, 0, -7, 0, 6, 0]
        refused = {(MADE, 1, -1): -1, (MADE, 1, GREATEST + 1): -1, (MADE, 3, 1): -5, (MADE, 9, 1): -1,
                   (USED, 2, -1): -1, (USED, 2, GREATEST + 1): -1, (USED, 8, 1): -5, (USED, 0, 1): -1,
                   (RATE, 1, GREATEST_RATE + 1): -1, (RATE, 1, -GREATEST_RATE - 1): -1, (RATE, 3, 1): -5,
                   (LINE, 1, 1): -7, (LINE, 3, 1): -5, (LINE, 0, 1): -1, (OPEN, 1): -3, (OPEN, 8): -3, (OPEN, 0): -1}
        for call, refusal in refused.items():
            self.assertEqual(ask(*calls, (STATE,), call, (STATE,))[5:], [state, [refusal], state], call)

    def test_what_was_refused_before_open_is_not_there_later(self):
        self.assertEqual(ask((MADE, 1, 5), (RATE, 1, 5), (LINE, 1, 2), (STATE,), (OPEN, 2), (STATE,))[3:],
                         [[-2], [0], [0, 2, 0, 0, 0, 0, 0, 0, 0]])


if __name__ == "__main__":
    unittest.main()
