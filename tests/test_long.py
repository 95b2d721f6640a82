"""Long lists: as many calls as there may be, the greatest nets, the longest numbers."""

import unittest
from math import prod

from currenthouse.house import answers
from tests.asking import (
    ENDS, EXCESSES, FEES, FEES_OF_USE, FLOW, FROM, GREATEST, GREATEST_FEE, GREATEST_RATE, LINE, LINE_IS, LOST, MADE,
    MIX, OPEN, OVER, RATE, RINGLESS, STATE, USED, WAYS, WEIGHT, WEIGHTS,
    ask, flat, fractions, great_net, net, reckoned,
)

EVERY_NODE = range(1, 9)
EVERY_LINE = range(1, 13)
OF_THE_WHOLE = [(EXCESSES,), (RINGLESS,), (WEIGHTS,), (FEES,), (FEES_OF_USE,), (STATE,)]
OF_EACH = ([(place, node) for place in (MIX, ENDS, LOST, WEIGHT) for node in EVERY_NODE]
           + [(place, line) for place in (OVER, LINE_IS) for line in EVERY_LINE])
OF_TWO = {place: [(place, a, b) for a in EVERY_NODE for b in EVERY_NODE] for place in (FROM, WAYS)}


def digits(number):
    return len(str(abs(number)))


class TheGreatestNet(unittest.TestCase):
    def setUp(self):
        self.net = net(8, *great_net())

    def test_is_a_chain_over_all_nodes_and_lines(self):
        excesses, ringless, state = ask(*self.net, (EXCESSES,), (RINGLESS,), (STATE,))[-3:]
        self.assertEqual((excesses, ringless, state[:3]), ([0] * 9, [0, 1], [0, 8, 12]))
        lines = great_net()[2]
        self.assertGreater(sorted(sent for _, _, sent, _ in lines)[4], GREATEST - 20)
        self.assertTrue(all(0 < comes < sent for _, _, sent, comes in lines))

    def test_every_call_as_reckoned(self):
        for asked in (OF_THE_WHOLE + OF_EACH, OF_TWO[FROM], OF_TWO[WAYS]):
            calls = self.net + asked
            self.assertLessEqual(len(calls), 200)
            self.assertEqual(ask(*calls), reckoned(*calls))

    def test_fractions_of_a_hundred_digits_and_more(self):
        share, weight, weights = ask(*self.net, (MIX, 8), (WEIGHT, 8), (WEIGHTS,))[-3:]
        self.assertGreater(digits(share[1]) + digits(share[2]), 100)
        self.assertGreater(digits(weight[1]) + digits(weight[2]), 130)
        self.assertGreater(digits(weights[1]) + digits(weights[2]), 120)

    def test_thinned_in_each_node(self):
        """A single chain: of what node 1 makes, each later node's mixture holds that much less."""
        made, used, lines = {1: GREATEST}, {8: 0}, []
        came = 0
        for node in range(1, 8):
            made.setdefault(node, GREATEST - node * node)
            used[node] = made[node] + came - GREATEST
            came = GREATEST - 2 * node
            lines.append((node, node + 1, GREATEST, came))
        made[8], used[8] = 14, GREATEST
        calls = net(8, made, used, lines, {1: -GREATEST_RATE})
        weighs = fractions(ask(*calls, (WEIGHT, 8))[-1])[0]
        through = {to: made[to] + comes for _, to, _, comes in lines}
        self.assertEqual(ask(*calls, (WEIGHT, 8)), reckoned(*calls, (WEIGHT, 8)))
        self.assertEqual(weighs * prod(through.values()), -GREATEST_RATE * prod(line[3] for line in lines))

    def test_below_0(self):
        below = [(RATE, node, -GREATEST_RATE) for node in EVERY_NODE]
        asked = [(WEIGHT, node) for node in EVERY_NODE] + [(WEIGHTS,)]
        found = ask(*self.net, *below, *asked)[-9:]
        self.assertEqual(found, reckoned(*self.net, *below, *asked)[-9:])
        for answer in found[:8]:
            self.assertEqual(answer[1:3], [-GREATEST_RATE, 1])
        self.assertEqual(found[8][5], -GREATEST_RATE * sum(great_net()[0].values()))

    def test_each_fee_whole(self):
        fees, of_use = ask(*self.net, (FEES,), (FEES_OF_USE,))[-2:]
        self.assertEqual(sum(fees), 12 * GREATEST_FEE - 78)
        self.assertEqual(sum(of_use), 12 * GREATEST_FEE - 78)


class TwoHundredCalls(unittest.TestCase):
    def filled(self, asked):
        calls = net(8, *great_net())
        return calls + [asked[k % len(asked)] for k in range(200 - len(calls))]

    def test_each_asked_again_and_again(self):
        for call in [(FROM, 1, 8), (OVER, 7), (LOST, 1), (WEIGHT, 8), (WEIGHTS,), (FEES,), (FEES_OF_USE,),
                     (WAYS, 1, 8), (LINE_IS, 12), (STATE,)]:
            calls = self.filled([call])
            self.assertEqual(len(calls), 200)
            found = ask(*calls)
            count = calls.count(call)
            self.assertEqual(found[-count:], [found[-1]] * count)
            self.assertEqual(found[-1], reckoned(*net(8, *great_net()), call)[-1])

    def test_unchanged_and_the_same_twice(self):
        for asked in (OF_THE_WHOLE + OF_EACH, OF_TWO[FROM], OF_TWO[WAYS]):
            handed = flat(self.filled(asked))
            kept = list(handed)
            first = answers(handed)
            self.assertEqual(handed, kept)
            self.assertEqual(answers(handed), first)
            self.assertEqual(handed, kept)

    def test_refused_all_along(self):
        asked = [(FROM, 1, 9), (OVER, 13), (LOST, 0), (WEIGHT, -1), (WAYS, 0, 1), (LINE_IS, 0)]
        self.assertEqual(ask(*(asked * 33)), [[-1]] * 198)
        before = [(WEIGHTS,), (FEES,), (FEES_OF_USE,), (STATE,), (LINE_IS, 12), (OVER, 12), (FROM, 8, 8), (LOST, 8)]
        self.assertEqual(ask(*(before * 25)), [[-2]] * 200)

    def test_changed_all_along(self):
        """The same line's flow, set anew each time and told each time."""
        calls = [(OPEN, 2), (LINE, 1, 2), (RATE, 1, -1)]
        expected = [[0], [0, 1], [0]]
        for amount in range(1, 20):
            calls += [(MADE, 1, 3 * amount), (FLOW, 1, 3 * amount, amount), (FROM, 1, 2), (USED, 2, amount),
                      (FROM, 1, 2), (LOST, 1), (WEIGHTS,), (LINE_IS, 1), (STATE,)]
            expected += [[0], [0], [-8], [0], [0, amount, 1], [0, 2 * amount, 1],
                         [0, -amount, 1, -2 * amount, 1, -3 * amount], [0, 1, 2, 3 * amount, amount, 0],
                         [0, 2, 1, 3 * amount, 0, -1, 0, amount, 0]]
        self.assertLessEqual(len(calls), 200)
        self.assertEqual(ask(*calls), expected)


if __name__ == "__main__":
    unittest.main()
