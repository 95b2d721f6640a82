"""weight and weights."""

import unittest
from fractions import Fraction as F

from tests.asking import (
    GREATEST, GREATEST_RATE, OPEN, RATE, USED, WEIGHT, WEIGHTS,
    Draw, ask, drawn_weighed_net, fractions, last, net, reckoned, told,
)

LINES = [(1, 2, 6, 6), (1, 3, 6, 5), (2, 4, 4, 4), (3, 4, 9, 8)]


def losing(rates):
    return net(4, {1: 12, 3: 4}, {2: 2, 4: 12}, LINES, rates)


class Weight(unittest.TestCase):
    def each(self, calls, nodes):
        return ask(*calls, *[(WEIGHT, node) for node in range(1, nodes + 1)])[len(calls):]

    def test_above_0(self):
        self.assertEqual(self.each(losing({1: 9, 3: 18}), 4),
                         [told(9, 0), told(9, 18), told(13, 0), told(F(35, 3), 140)])

    def test_below_0(self):
        self.assertEqual(self.each(losing({1: 9, 3: -27}), 4),
                         [[0, 9, 1, 0, 1], [0, 9, 1, 18, 1], [0, -7, 1, 0, 1], [0, -5, 3, -20, 1]])
        self.assertEqual(self.each(losing({1: -1, 3: -1}), 4), [told(-1, 0), told(-1, -2), told(-1, 0), told(-1, -12)])

    def test_fractions_below_0(self):
        self.assertEqual(last(*losing({3: -1}), (WEIGHT, 3)), [0, -4, 9, 0, 1])
        self.assertEqual(last(*losing({3: -1}), (WEIGHT, 4)), [0, -8, 27, -32, 9])

    def test_rates_that_cancel(self):
        calls = net(3, {1: 5, 2: 5}, {3: 10}, [(1, 3, 5, 5), (2, 3, 5, 5)], {1: 7, 2: -7})
        self.assertEqual(last(*calls, (WEIGHT, 3)), [0, 0, 1, 0, 1])

    def test_rates_of_0(self):
        self.assertEqual(self.each(losing({}), 4), [[0, 0, 1, 0, 1]] * 4)
        self.assertEqual(self.each(losing({1: 5, 3: 4}) + [(RATE, 1, 0), (RATE, 3, 0)], 4), [[0, 0, 1, 0, 1]] * 4)

    def test_the_rate_of_a_node_that_makes_nothing(self):
        self.assertEqual(self.each(losing({2: 100, 4: -100}), 4), [[0, 0, 1, 0, 1]] * 4)

    def test_nothing_goes_through(self):
        self.assertEqual(last((OPEN, 1), (RATE, 1, GREATEST_RATE), (WEIGHT, 1)), [0, 0, 1, 0, 1])
        calls = net(3, {1: 5}, {3: 5}, [(1, 3, 5, 5), (1, 2, 0, 0)], {1: 3, 2: 4})
        self.assertEqual(self.each(calls, 3), [told(3, 0), told(0, 0), told(3, 15)])

    def test_something_is_sent_and_nothing_comes(self):
        calls = net(3, {1: 5, 2: 3}, {3: 3}, [(1, 3, 5, 0), (2, 3, 3, 3)], {1: 4, 2: -5})
        self.assertEqual(self.each(calls, 3), [told(4, 0), told(-5, 0), told(-5, -15)])

    def test_several_lines_between_the_same_nodes(self):
        calls = net(2, {1: 10, 2: 1}, {2: 8}, [(1, 2, 3, 3), (1, 2, 5, 4), (1, 2, 2, 0)], {1: 1, 2: -3})
        self.assertEqual(last(*calls, (WEIGHT, 2)), told(F(1, 2), 4))

    def test_the_greatest_rates_and_amounts(self):
        for rate in (-GREATEST_RATE, GREATEST_RATE):
            calls = net(8, {8: GREATEST}, {8: GREATEST}, [], {8: rate})
            self.assertEqual(last(*calls, (WEIGHT, 8)), [0, rate, 1, rate * GREATEST, 1])

    def test_the_greatest_rates_against_one_another(self):
        calls = net(3, {1: GREATEST, 2: GREATEST, 3: 1}, {1: 1, 2: GREATEST, 3: GREATEST},
                    [(1, 3, GREATEST - 1, GREATEST - 1)], {1: GREATEST_RATE, 2: 1, 3: -GREATEST_RATE})
        weighs = F(GREATEST_RATE * (GREATEST - 2), GREATEST)
        self.assertEqual(last(*calls, (WEIGHT, 3)), told(weighs, weighs * GREATEST))

    def test_as_the_rate_is_now(self):
        calls = net(1, {1: 3}, {1: 3}, [])
        self.assertEqual(ask(*calls, (WEIGHT, 1), (RATE, 1, 5), (WEIGHT, 1), (RATE, 1, -5), (WEIGHT, 1),
                             (RATE, 1, 1000001), (WEIGHT, 1), (USED, 1, 2), (WEIGHT, 1))[3:],
                         [told(0, 0), [0], told(5, 15), [0], told(-5, -15), [-1], told(-5, -15), [0], [-8]])


class Weights(unittest.TestCase):
    def test_above_and_below_0(self):
        self.assertEqual(last(*losing({1: 9, 3: 18}), (WEIGHTS,)), [0, 158, 1, 22, 1, 180])
        self.assertEqual(last(*losing({1: 9, 3: -27}), (WEIGHTS,)), [0, -2, 1, 2, 1, 0])

    def test_fractions_below_0(self):
        self.assertEqual(last(*losing({1: -1}), (WEIGHTS,)), [0, -94, 9, -14, 9, -12])
        self.assertEqual(last(*losing({3: -1}), (WEIGHTS,)), [0, -32, 9, -4, 9, -4])

    def test_rates_of_0(self):
        self.assertEqual(last(*losing({}), (WEIGHTS,)), [0, 0, 1, 0, 1, 0])
        self.assertEqual(last((OPEN, 8), (WEIGHTS,)), [0, 0, 1, 0, 1, 0])
        self.assertEqual(last((OPEN, 1), (RATE, 1, 7), (WEIGHTS,)), [0, 0, 1, 0, 1, 0])

    def test_all_is_lost(self):
        calls = net(2, {1: 5}, {}, [(1, 2, 5, 0)], {1: -3, 2: 4})
        self.assertEqual(last(*calls, (WEIGHTS,)), [0, 0, 1, -15, 1, -15])

    def test_nothing_is_lost(self):
        calls = net(2, {1: 5}, {2: 5}, [(1, 2, 5, 5)], {1: -3, 2: 4})
        self.assertEqual(last(*calls, (WEIGHTS,)), [0, -15, 1, 0, 1, -15])

    def test_several_lines_between_the_same_nodes(self):
        calls = net(2, {1: 10, 2: 1}, {2: 8}, [(1, 2, 3, 3), (1, 2, 5, 4), (1, 2, 2, 0)], {1: 1, 2: -3})
        self.assertEqual(last(*calls, (WEIGHTS,)), [0, 4, 1, 3, 1, 7])

    def test_the_greatest_rates_and_amounts(self):
        every = range(1, 9)
        for rate in (-GREATEST_RATE, GREATEST_RATE):
            amounts = dict.fromkeys(every, GREATEST)
            calls = net(8, amounts, amounts, [], dict.fromkeys(every, rate))
            total = 8 * rate * GREATEST
            self.assertEqual(last(*calls, (WEIGHTS,)), [0, total, 1, 0, 1, total])
            lines = [(node, 8, GREATEST, 0) for node in range(1, 8)]
            calls = net(8, amounts, {8: GREATEST}, lines, dict.fromkeys(every, rate))
            self.assertEqual(last(*calls, (WEIGHTS,)), [0, rate * GREATEST, 1, total - rate * GREATEST, 1, total])


class DrawnNets(unittest.TestCase):
    def test_as_reckoned_and_nothing_weighs_twice(self):
        draw = Draw(17)
        below = 0
        for greatest in [3, 12, 1000, GREATEST] * 60:
            calls = drawn_weighed_net(draw, greatest)
            nodes = range(1, calls[0][1] + 1)
            asked = [(WEIGHT, node) for node in nodes] + [(WEIGHTS,)]
            found = ask(*calls, *asked)
            self.assertEqual(found, reckoned(*calls, *asked), calls)
            of_use, of_losses = fractions(found[-1][:5])
            self.assertEqual(len(found[-1]), 6)
            self.assertEqual(of_use + of_losses, found[-1][5], calls)
            self.assertEqual(sum(fractions(answer)[1] for answer in found[len(calls):-1]), of_use, calls)
            below += of_use < 0 and of_use.denominator > 1
        self.assertGreater(below, 20)


if __name__ == "__main__":
    unittest.main()
