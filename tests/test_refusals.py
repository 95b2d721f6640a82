"""The refusals of the calls from 11 on: each alone, and which comes first; the edges of the ranges."""

import unittest

from tests.asking import (
    FAR, FEE, FEES, FEES_OF_USE, FLOW, FROM, LINE, LINE_IS, LOST, MADE, OPEN, OVER, RATE, STATE, USED, WAYS, WEIGHT,
    WEIGHTS, ask, last, net,
)

OF_A_NODE = (LOST, WEIGHT)
OF_TWO_NODES = (FROM, WAYS)
OF_A_LINE = (OVER, LINE_IS)
OF_NOTHING = (WEIGHTS, FEES, FEES_OF_USE, STATE)
ANY_NET = (LINE_IS, STATE)

BEYOND = (0, -1, -FAR, FAR)
NOT_BALANCED = [(OPEN, 2), (LINE, 1, 2), (MADE, 1, 1)]
BALANCED_RING = net(2, {}, {}, [(1, 2, 5, 5), (2, 1, 5, 5)])
RING_OVER_WHICH_NOTHING_COMES = net(2, {1: 5, 2: 5}, {}, [(1, 2, 5, 0), (2, 1, 5, 0)])
CANCELLING = [(OPEN, 2), (LINE, 1, 2), (MADE, 1, 1), (USED, 2, 1)]
LACKING_ONE = net(2, {1: 10 ** 9}, {2: 10 ** 9}, [(1, 2, 10 ** 9, 10 ** 9 - 1)])
UNSOUND = (NOT_BALANCED, BALANCED_RING, RING_OVER_WHICH_NOTHING_COMES, CANCELLING, LACKING_ONE)


def each_call(node=1, second=1, line=1):
    calls = [(place, node) for place in OF_A_NODE] + [(place, node, second) for place in OF_TWO_NODES]
    return calls + [(place, line) for place in OF_A_LINE] + [(place,) for place in OF_NOTHING]


class Refusals(unittest.TestCase):
    def each(self, before, calls, answer):
        for call in calls:
            self.assertEqual(last(*before, call), answer, (before, call))

    def test_nodes_beyond_the_range(self):
        for node in BEYOND + (9,):
            self.each([(OPEN, 8)], [(place, node) for place in OF_A_NODE], [-1])
            self.each([(OPEN, 8)], [(place, node, 1) for place in OF_TWO_NODES], [-1])
            self.each([(OPEN, 8)], [(place, 1, node) for place in OF_TWO_NODES], [-1])
            self.each([(OPEN, 8)], [(place, node, node) for place in OF_TWO_NODES], [-1])

    def test_lines_beyond_the_range(self):
        full = [(OPEN, 2)] + [(LINE, 1, 2)] * 12
        for line in BEYOND + (13,):
            self.each(full, [(place, line) for place in OF_A_LINE], [-1])

    def test_the_edges_of_the_ranges(self):
        full = [(OPEN, 8)] + [(LINE, 1, 8)] * 12
        for node in (1, 8):
            self.assertEqual(last(*full, (LOST, node)), [0, 0, 1])
            self.assertEqual(last(*full, (WEIGHT, node)), [0, 0, 1, 0, 1])
            for second in (1, 8):
                self.assertEqual(last(*full, (FROM, node, second)), [0, 0, 1])
                self.assertEqual(last(*full, (WAYS, node, second)), [0, int(node == second)])
        for line in (1, 12):
            self.assertEqual(last(*full, (OVER, line)), [0] + [0, 1] * 8)
            self.assertEqual(last(*full, (LINE_IS, line)), [0, 1, 8, 0, 0, 0])

    def test_nodes_that_are_not_there(self):
        for nodes in range(1, 8):
            for node in {nodes + 1, 8}:
                self.each([(OPEN, nodes)], [(place, node) for place in OF_A_NODE], [-5])
                self.each([(OPEN, nodes)], [(place, node, 1) for place in OF_TWO_NODES], [-5])
                self.each([(OPEN, nodes)], [(place, nodes, node) for place in OF_TWO_NODES], [-5])
                self.each([(OPEN, nodes)], [(place, node, node) for place in OF_TWO_NODES], [-5])

    def test_lines_that_are_not_there(self):
        for lines in (0, 1, 11):
            for line in (lines + 1, 12):
                self.each([(OPEN, 2)] + [(LINE, 2, 1)] * lines, [(place, line) for place in OF_A_LINE], [-6])

    def test_not_sound(self):
        for before in UNSOUND:
            for call in each_call():
                answer = last(*before, call)
                if call[0] in ANY_NET:
                    self.assertEqual(answer[0], 0, (before, call))
                else:
                    self.assertEqual(answer, [-8], (before, call))

    def test_the_range_comes_before_all_others(self):
        for before in ([], *UNSOUND):
            for node in (0, 9):
                self.each(before, [(place, node) for place in OF_A_NODE], [-1])
                # 8 isn't there either: the range of the second comes before the first one's being there.
                self.each(before, [(place, 8, node) for place in OF_TWO_NODES], [-1])
                self.each(before, [(place, node, 8) for place in OF_TWO_NODES], [-1])
            for line in (0, 13):
                self.each(before, [(place, line) for place in OF_A_LINE], [-1])

    def test_what_is_not_there_comes_before_not_sound(self):
        for before in UNSOUND:
            self.each(before, [(place, 3) for place in OF_A_NODE], [-5])
            self.each(before, [(place, 1, 3) for place in OF_TWO_NODES], [-5])
            self.each(before, [(place, 8, 1) for place in OF_TWO_NODES], [-5])
            self.each(before, [(place, 3) for place in OF_A_LINE], [-6])

    def test_before_open(self):
        for node in (1, 8):
            calls = each_call(node, node, node)
            self.each([], calls, [-2])
            self.assertEqual(ask(*calls), [[-2]] * len(calls))
        self.each([(OPEN, 0)], each_call(), [-2])
        self.each([(OPEN, 9)], each_call(), [-2])
        self.each([], [(place, 12) for place in OF_A_LINE], [-2])

    def test_refused_or_not_they_change_nothing(self):
        sound = net(3, {1: 9}, {2: 3, 3: 4}, [(1, 2, 5, 3), (1, 3, 4, 4)], {1: 6, 2: -1}, {1: 7})
        refused = each_call(9, 9, 13) + each_call(8, 8, 12)
        for before in (sound, *UNSOUND):
            after = each_call() + [(LINE, 2, 1), (LINE_IS, 3), (STATE,)]
            found = ask(*before, *refused, *each_call(), *after)[-len(after):]
            self.assertEqual(found, ask(*before, *after)[-len(after):])

    def test_sound_again(self):
        steps = [(OPEN, 2), (LINE, 1, 2), (MADE, 1, 6), (LOST, 1), (FLOW, 1, 6, 4), (LOST, 1), (USED, 2, 4), (LOST, 1),
                 (LINE, 2, 1), (LOST, 1), (FLOW, 2, 1, 0), (LOST, 1), (FLOW, 2, 0, 0), (LOST, 1), (RATE, 1, 5),
                 (FEE, 1, 5), (LOST, 1)]
        self.assertEqual([answer for call, answer in zip(steps, ask(*steps)) if call[0] == LOST],
                         [[-8], [-8], [0, 2, 1], [0, 2, 1], [-8], [0, 2, 1], [0, 2, 1]])


if __name__ == "__main__":
    unittest.main()
