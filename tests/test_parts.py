"""from, over and lost."""

import unittest
from fractions import Fraction as F

from tests.asking import (
    ENDS, FLOW, FROM, GREATEST, LINE, LOST, MADE, MIX, OPEN, OVER, USED,
    Draw, ask, drawn_sound_net, fractions, last, net, reckoned, told,
)

# Losses on the second line and on the fourth one; node 3 mixes what 1 and 3 make.
LOSING = net(4, {1: 12, 3: 4}, {2: 2, 4: 12}, [(1, 2, 6, 6), (1, 3, 6, 5), (2, 4, 4, 4), (3, 4, 9, 8)])
# Over the first line nothing comes, over the others all does.
NOTHING_COMES = net(3, {1: 10, 2: 5}, {3: 9}, [(1, 3, 6, 0), (2, 3, 5, 5), (1, 3, 4, 4)])
SEVERAL = net(2, {1: 10, 2: 1}, {2: 8}, [(1, 2, 3, 3), (1, 2, 5, 4), (1, 2, 2, 0)])
# Through nodes 2 and 4 nothing goes.
IDLE = net(4, {1: 5}, {3: 5}, [(1, 3, 5, 5), (1, 2, 0, 0), (2, 3, 0, 0)])


class From(unittest.TestCase):
    def table(self, calls, nodes):
        """[a - 1][b - 1] is what's made in a and used in b."""
        asked = [(FROM, a, b) for a in range(1, nodes + 1) for b in range(1, nodes + 1)]
        found = [fractions(answer) for answer in ask(*calls, *asked)[len(calls):]]
        self.assertEqual({len(answer) for answer in found}, {1})
        return [[found[a * nodes + b][0] for b in range(nodes)] for a in range(nodes)]

    def test_losses(self):
        self.assertEqual(self.table(LOSING, 4), [[0, 2, 0, F(76, 9)], [0] * 4, [0, 0, 0, F(32, 9)], [0] * 4])
        self.assertEqual(last(*LOSING, (FROM, 1, 4)), [0, 76, 9])
        self.assertEqual(last(*LOSING, (FROM, 1, 2)), [0, 2, 1])
        self.assertEqual(last(*LOSING, (FROM, 4, 1)), [0, 0, 1])

    def test_something_is_sent_and_nothing_comes(self):
        self.assertEqual(self.table(NOTHING_COMES, 3), [[0, 0, 4], [0, 0, 5], [0, 0, 0]])

    def test_several_lines_between_the_same_nodes(self):
        self.assertEqual(self.table(SEVERAL, 2), [[0, 7], [0, 1]])

    def test_nothing_goes_through(self):
        self.assertEqual(self.table(IDLE, 4), [[0, 0, 5, 0], [0] * 4, [0] * 4, [0] * 4])
        self.assertEqual(self.table([(OPEN, 1)], 1), [[0]])
        self.assertEqual(self.table([(OPEN, 8)], 8), [[0] * 8] * 8)

    def test_made_and_used_in_one(self):
        self.assertEqual(self.table(net(2, {2: 9}, {2: 9}, []), 2), [[0, 0], [0, 9]])
        self.assertEqual(self.table(net(2, {1: 9}, {1: 3, 2: 6}, [(1, 2, 6, 6)]), 2), [[3, 6], [0, 0]])

    def test_which_is_made_and_which_is_used(self):
        calls = net(2, {1: 4}, {2: 4}, [(1, 2, 4, 4)])
        self.assertEqual(last(*calls, (FROM, 1, 2)), [0, 4, 1])
        self.assertEqual(last(*calls, (FROM, 2, 1)), [0, 0, 1])
        back = net(2, {2: 4}, {1: 4}, [(2, 1, 4, 4)])
        self.assertEqual(last(*back, (FROM, 2, 1)), [0, 4, 1])
        self.assertEqual(last(*back, (FROM, 1, 2)), [0, 0, 1])

    def test_the_greatest_amounts(self):
        lines = [(node, node + 1, GREATEST, GREATEST) for node in range(1, 8)]
        self.assertEqual(last(*net(8, {1: GREATEST}, {8: GREATEST}, lines), (FROM, 1, 8)), [0, GREATEST, 1])
        lines = [(node, node + 1, GREATEST, 1) for node in range(1, 8)]
        made = {node: GREATEST - (node > 1) for node in range(1, 8)}
        self.assertEqual(last(*net(8, made, {8: 1}, lines), (FROM, 1, 8)), [0, 1, GREATEST ** 6])

    def test_as_the_net_is_now(self):
        self.assertEqual(ask((OPEN, 2), (FROM, 1, 1), (MADE, 1, 4), (FROM, 1, 1), (USED, 1, 4), (FROM, 1, 1),
                             (LINE, 1, 2), (USED, 1, 1), (FLOW, 1, 3, 2), (USED, 2, 2), (FROM, 1, 1), (FROM, 1, 2)),
                         [[0], [0, 0, 1], [0], [-8], [0], [0, 4, 1], [0, 1], [0], [0], [0], [0, 1, 1], [0, 2, 1]])


class Over(unittest.TestCase):
    def test_losses(self):
        self.assertEqual(ask(*LOSING, (OVER, 1), (OVER, 2), (OVER, 3), (OVER, 4))[-4:],
                         [told(6, 0, 0, 0), told(6, 0, 0, 0), told(4, 0, 0, 0), [0, 5, 1, 0, 1, 4, 1, 0, 1]])

    def test_fractions(self):
        calls = net(3, {1: 1, 2: 2}, {2: 1, 3: 2}, [(1, 2, 1, 1), (2, 3, 2, 2)])
        self.assertEqual(last(*calls, (OVER, 2)), [0, 2, 3, 4, 3, 0, 1])

    def test_what_is_sent_is_parted_not_what_comes(self):
        self.assertEqual(last(*NOTHING_COMES, (OVER, 1)), told(6, 0, 0))
        self.assertEqual(last(*net(2, {1: 5}, {}, [(1, 2, 5, 0)]), (OVER, 1)), told(5, 0))

    def test_several_lines_between_the_same_nodes(self):
        self.assertEqual(ask(*SEVERAL, (OVER, 1), (OVER, 2), (OVER, 3))[-3:], [told(3, 0), told(5, 0), told(2, 0)])

    def test_nothing_is_sent(self):
        self.assertEqual(ask(*IDLE, (OVER, 1), (OVER, 2), (OVER, 3))[-3:],
                         [told(5, 0, 0, 0), told(0, 0, 0, 0), told(0, 0, 0, 0)])

    def test_the_last_of_twelve_at_the_greatest_amounts(self):
        made = {node: GREATEST for node in range(1, 8)}
        lines = [(node, 7, GREATEST, GREATEST) for node in range(1, 7)]
        lines += [(7, 8, GREATEST, GREATEST // 6)] * 6
        calls = net(8, made, {7: GREATEST, 8: 6 * (GREATEST // 6)}, lines)
        self.assertEqual(last(*calls, (OVER, 12)), told(*[F(GREATEST, 7)] * 7, 0))


class Lost(unittest.TestCase):
    def losses(self, calls, nodes):
        asked = [(LOST, node) for node in range(1, nodes + 1)]
        return [fractions(answer) for answer in ask(*calls, *asked)[len(calls):]]

    def test_losses(self):
        self.assertEqual(self.losses(LOSING, 4), [[F(14, 9)], [0], [F(4, 9)], [0]])
        self.assertEqual(last(*LOSING, (LOST, 1)), [0, 14, 9])

    def test_something_is_sent_and_nothing_comes(self):
        self.assertEqual(self.losses(NOTHING_COMES, 3), [[6], [0], [0]])

    def test_several_lines_between_the_same_nodes(self):
        self.assertEqual(self.losses(SEVERAL, 2), [[3], [0]])

    def test_nothing_goes_through(self):
        self.assertEqual(self.losses(IDLE, 4), [[0]] * 4)
        self.assertEqual(self.losses([(OPEN, 8)], 8), [[0]] * 8)

    def test_nothing_is_lost(self):
        self.assertEqual(self.losses(net(2, {1: 9}, {1: 3, 2: 6}, [(1, 2, 6, 6)]), 2), [[0], [0]])

    def test_all_is_lost_of_the_greatest_amounts(self):
        made = {node: GREATEST for node in range(1, 8)}
        calls = net(8, made, {}, [(node, 8, GREATEST, 0) for node in range(1, 8)])
        self.assertEqual(self.losses(calls, 8), [[GREATEST]] * 7 + [[0]])

    def test_a_loss_far_from_where_it_was_made(self):
        lines = [(1, 2, 3, 3), (2, 3, 6, 6), (3, 4, 6, 1)]
        self.assertEqual(self.losses(net(4, {1: 3, 2: 3}, {4: 1}, lines), 4), [[F(5, 2)], [F(5, 2)], [0], [0]])


class DrawnNets(unittest.TestCase):
    def test_as_reckoned_and_up_as_down(self):
        draw = Draw(13)
        for greatest in [3, 12, 1000, GREATEST] * 60:
            self.checked(drawn_sound_net(draw, greatest))

    def checked(self, calls):
        nodes = range(1, calls[0][1] + 1)
        made = {call[1]: call[2] for call in calls if call[0] == MADE}
        used = {call[1]: call[2] for call in calls if call[0] == USED}
        flows = [call for call in calls if call[0] == FLOW]
        asked = [(FROM, a, b) for a in nodes for b in nodes] + [(LOST, a) for a in nodes]
        asked += [(OVER, flow[1]) for flow in flows] + [(place, node) for place in (MIX, ENDS) for node in nodes]
        answers = ask(*calls, *asked)
        self.assertEqual(answers, reckoned(*calls, *asked), calls)
        found = {call: fractions(answer) for call, answer in zip(asked, answers[len(calls):], strict=True)}
        for a in nodes:
            for b in nodes:
                self.assertEqual(found[FROM, a, b], [used[b] * found[MIX, b][a - 1]], calls)
                self.assertEqual(found[FROM, a, b], [made[a] * found[ENDS, a][b - 1]], calls)
            self.assertEqual(sum(found[FROM, a, b][0] for b in nodes) + found[LOST, a][0], made[a], calls)
            self.assertEqual(sum(found[FROM, b, a][0] for b in nodes), used[a], calls)
        for _, line, sent, _ in flows:
            self.assertEqual(sum(found[OVER, line]), sent, calls)
        self.assertEqual(sum(found[LOST, a][0] for a in nodes), sum(sent - comes for _, _, sent, comes in flows))


if __name__ == "__main__":
    unittest.main()
