"""fees and feesOfUse."""

import unittest

from tests.asking import (
    BIG_PRIMES, FEE, FEES, FEES_OF_USE, FLOW, GREATEST, GREATEST_FEE, OPEN, OVER, USED,
    Draw, ask, drawn_weighed_net, fractions, last, net, reckoned,
)


def made_by(parts, fee, comes=None):
    """Each node but the last two makes a part; all goes over the last line, which has the fee."""
    count = len(parts)
    made = {node: part for node, part in enumerate(parts, start=1)}
    lines = [(node, count + 1, part, part) for node, part in made.items()]
    total = sum(parts)
    lines.append((count + 1, count + 2, total, total if comes is None else comes))
    return net(count + 2, made, {count + 2: lines[-1][3]}, lines, fees={len(lines): fee})


def used_by(parts, fee):
    """All goes over the first line, which has the fee; each node but the first two uses a part."""
    used = {node: part for node, part in enumerate(parts, start=3)}
    total = sum(parts)
    lines = [(1, 2, total, total)] + [(2, node, part, part) for node, part in used.items()]
    return net(len(parts) + 2, {1: total}, used, lines, fees={1: fee})


class Parting(unittest.TestCase):
    """The same parts, once of those who make and once of those who use."""

    def both(self, parts, fee, gets):
        self.assertEqual(last(*made_by(parts, fee), (FEES,)), [0] + gets + [0, 0], (parts, fee))
        self.assertEqual(last(*used_by(parts, fee), (FEES_OF_USE,)), [0, 0, 0] + gets, (parts, fee))

    def test_evenly(self):
        self.both([1, 1], 10, [5, 5])
        self.both([1, 2, 3], 12, [2, 4, 6])
        self.both([7], 5, [5])
        self.both([3, 0, 5], 8, [3, 0, 5])

    def test_the_greatest_remainder_first(self):
        self.both([1, 2], 1, [0, 1])
        self.both([2, 1], 1, [1, 0])
        self.both([1, 2, 4], 10, [1, 3, 6])
        self.both([1, 3, 3], 5, [1, 2, 2])
        self.both([5, 2, 4], 3, [1, 1, 1])

    def test_the_greatest_remainder_not_the_greatest_part(self):
        # Of 9.1 and 0.9, then of 6.4 and 3.6, the smaller part has the more rounded off.
        self.both([91, 9], 10, [9, 1])
        self.both([64, 36], 10, [6, 4])
        self.both([75, 15, 10], 10, [8, 1, 1])

    def test_remainders_that_are_the_same(self):
        self.both([1, 1], 1, [1, 0])
        self.both([1, 1], 11, [6, 5])
        self.both([1, 1, 1], 1, [1, 0, 0])
        self.both([1, 1, 1], 2, [1, 1, 0])
        self.both([1, 1, 1], 10, [4, 3, 3])
        self.both([1, 1, 1], 11, [4, 4, 3])
        self.both([1, 1, 1, 1, 1, 1], 5, [1, 1, 1, 1, 1, 0])

    def test_remainders_that_are_the_same_of_other_parts(self):
        # 1/2 is rounded off each time, of the smaller part and of the greater one.
        self.both([1, 3], 2, [1, 1])
        self.both([3, 1], 2, [2, 0])
        self.both([1, 5], 3, [1, 2])
        self.both([5, 1], 3, [3, 0])

    def test_those_whose_remainder_is_0_get_no_more(self):
        self.both([2, 1, 1], 2, [1, 1, 0])
        self.both([0, 1, 1], 1, [0, 1, 0])
        self.both([0, 0, 1, 2], 2, [0, 0, 1, 1])
        self.both([4, 2, 1, 1], 4, [2, 1, 1, 0])

    def test_two_lacking_of_three_remainders(self):
        # 4/9, 6/9 and 8/9 are rounded off.
        self.both([2, 3, 4], 2, [0, 1, 1])
        self.both([4, 3, 2], 2, [1, 1, 0])

    def test_a_fee_of_0(self):
        self.both([1, 2, 3], 0, [0, 0, 0])

    def test_a_fee_of_1(self):
        self.both([GREATEST // 2, GREATEST // 2], 1, [1, 0])
        self.both([GREATEST // 2 - 1, GREATEST // 2], 1, [0, 1])

    def test_the_greatest_fee(self):
        self.both([1, 1, 1], GREATEST_FEE, [333333333334, 333333333333, 333333333333])
        self.both([1, 2], GREATEST_FEE, [333333333333, 666666666667])
        self.both([1, GREATEST - 1], GREATEST_FEE, [1000, GREATEST_FEE - 1000])
        self.both([1], GREATEST_FEE, [GREATEST_FEE])


class Fees(unittest.TestCase):
    def test_no_lines(self):
        for nodes in (1, 8):
            for place in (FEES, FEES_OF_USE):
                self.assertEqual(last((OPEN, nodes), (place,)), [0] * (nodes + 1))

    def test_nothing_is_sent(self):
        calls = net(2, {1: 5}, {1: 5}, [(1, 2, 0, 0)], fees={1: 100})
        self.assertEqual(last(*calls, (FEES,)), [0, 0, 0])
        self.assertEqual(last(*calls, (FEES_OF_USE,)), [0, 0, 0])

    def test_something_is_sent_and_nothing_comes(self):
        calls = net(2, {1: 5}, {}, [(1, 2, 5, 0)], fees={1: 100})
        self.assertEqual(last(*calls, (FEES,)), [0, 100, 0])
        self.assertEqual(last(*calls, (FEES_OF_USE,)), [0, 0, 0])

    def test_nothing_comes_to_where_others_use(self):
        calls = net(3, {1: 5, 2: 3}, {3: 3}, [(1, 3, 5, 0), (2, 3, 3, 3)], fees={1: 100, 2: 7})
        self.assertEqual(last(*calls, (FEES,)), [0, 100, 7, 0])
        self.assertEqual(last(*calls, (FEES_OF_USE,)), [0, 0, 0, 7])

    def test_something_comes_and_is_lost_later(self):
        calls = net(3, {1: 5}, {}, [(1, 2, 5, 4), (2, 3, 4, 0)], fees={1: 100, 2: 50})
        self.assertEqual(last(*calls, (FEES,)), [0, 150, 0, 0])
        self.assertEqual(last(*calls, (FEES_OF_USE,)), [0, 0, 0, 0])

    def test_the_whole_fee_though_some_is_lost_later(self):
        # Of the 9 that come to node 2, 1 is used there, 4 in node 3, 1 in node 4: 3 are lost.
        calls = net(4, {1: 10}, {2: 1, 3: 4, 4: 1}, [(1, 2, 10, 9), (2, 3, 4, 4), (2, 4, 4, 1)], fees={1: 100})
        self.assertEqual(last(*calls, (FEES,)), [0, 100, 0, 0, 0])
        self.assertEqual(last(*calls, (FEES_OF_USE,)), [0, 0, 17, 67, 16])

    def test_losses_on_the_line_itself_change_no_part(self):
        for comes in (0, 1, 5, 6):
            self.assertEqual(last(*made_by([1, 2, 3], 7, comes), (FEES,)), [0, 1, 2, 4, 0, 0])

    def test_several_lines_are_each_parted_alone(self):
        # Over both lines goes the same mixture of halves; each has a unit over, and the first node gets both.
        lines = [(1, 3, 2, 2), (2, 3, 2, 2), (3, 4, 2, 2), (3, 4, 2, 2)]
        calls = net(4, {1: 2, 2: 2}, {4: 4}, lines, fees={3: 1, 4: 3})
        self.assertEqual(last(*calls, (FEES,)), [0, 3, 1, 0, 0])
        self.assertEqual(last(*calls, (FEES,), (FEE, 1, 10), (FEE, 2, 20), (FEES,)), [0, 13, 21, 0, 0])

    def test_several_lines_of_use(self):
        lines = [(1, 2, 2, 2), (1, 2, 2, 2), (2, 3, 2, 2), (2, 4, 2, 2)]
        calls = net(4, {1: 4}, {3: 2, 4: 2}, lines, fees={1: 1, 2: 3, 3: 10, 4: 20})
        self.assertEqual(last(*calls, (FEES_OF_USE,)), [0, 0, 0, 13, 21])
        self.assertEqual(last(*calls, (FEES,)), [0, 34, 0, 0, 0])

    def test_who_makes_and_uses_on_the_way(self):
        calls = net(3, {1: 6, 2: 3}, {2: 6, 3: 3}, [(1, 2, 6, 6), (2, 3, 3, 3)], fees={1: 10, 2: 10})
        self.assertEqual(last(*calls, (FEES,)), [0, 10 + 7, 3, 0])
        self.assertEqual(last(*calls, (FEES_OF_USE,)), [0, 0, 7, 3 + 10])

    def test_twelve_lines_with_the_greatest_fee(self):
        calls = net(2, {1: 12}, {2: 12}, [(1, 2, 1, 1)] * 12, fees=dict.fromkeys(range(1, 13), GREATEST_FEE))
        self.assertEqual(last(*calls, (FEES,)), [0, 12 * GREATEST_FEE, 0])
        self.assertEqual(last(*calls, (FEES_OF_USE,)), [0, 0, 12 * GREATEST_FEE])

    def test_great_parts(self):
        made = [prime // 7 for prime in BIG_PRIMES[:6]]
        found = last(*made_by(made, GREATEST_FEE), (FEES,))
        exact = [divmod(GREATEST_FEE * part, sum(made)) for part in made]
        self.assertEqual(sum(found[1:]), GREATEST_FEE)
        for got, (down, rest) in zip(found[1:7], exact):
            self.assertIn(got, (down, down + (rest > 0)))

    def test_as_the_net_is_now(self):
        calls = net(2, {1: 2}, {2: 2}, [(1, 2, 2, 2)])
        self.assertEqual(ask(*calls, (FEES,), (FEE, 1, 9), (FEES,), (FEE, 1, -1), (FEES,), (FEE, 1, 4), (FEES_OF_USE,),
                             (FLOW, 1, 2, 0), (FEES,), (USED, 2, 0), (FEES,), (FEES_OF_USE,))[5:],
                         [[0, 0, 0], [0], [0, 9, 0], [-1], [0, 9, 0], [0], [0, 0, 4], [0], [-8], [0], [0, 4, 0],
                          [0, 0, 0]])


class DrawnNets(unittest.TestCase):
    def test_as_reckoned_and_each_fee_whole(self):
        draw = Draw(19)
        unequal = 0
        for greatest in [3, 12, 1000, GREATEST] * 60:
            calls = drawn_weighed_net(draw, greatest)
            found = ask(*calls, (FEES,), (FEES_OF_USE,))
            self.assertEqual(found, reckoned(*calls, (FEES,), (FEES_OF_USE,)), calls)
            fees = {call[1]: call[2] for call in calls if call[0] == FEE}
            flows = {call[1]: call[2:] for call in calls if call[0] == FLOW}
            of_sending = sum(fee for line, fee in fees.items() if flows[line][0] > 0)
            self.assertEqual(sum(found[-2]), of_sending, calls)
            self.assertLessEqual(sum(found[-1]), sum(fee for line, fee in fees.items() if flows[line][1] > 0), calls)
            unequal += found[-1] != found[-2]
        self.assertGreater(unequal, 50)

    def test_one_line_at_a_time_is_the_same_together(self):
        draw = Draw(23)
        for _ in range(40):
            calls = drawn_weighed_net(draw, 30)
            fees = [call for call in calls if call[0] == FEE]
            bare = [call for call in calls if call[0] != FEE]
            for place in (FEES, FEES_OF_USE):
                alone = [last(*bare, fee, (place,)) for fee in fees]
                together = [sum(numbers) for numbers in zip([0] * (calls[0][1] + 1), *alone, strict=True)]
                self.assertEqual(last(*calls, (place,)), together)

    def test_no_one_is_more_than_a_unit_off(self):
        draw = Draw(29)
        for _ in range(60):
            calls = drawn_weighed_net(draw, 1000)
            bare = [call for call in calls if call[0] != FEE]
            for fee in [call for call in calls if call[0] == FEE]:
                parts, gets = ask(*bare, fee, (OVER, fee[1]), (FEES,))[-2:]
                parts = fractions(parts)
                for part, got in zip(parts, gets[1:], strict=True):
                    exact = fee[2] * part / sum(parts) if sum(parts) > 0 else 0
                    self.assertLess(abs(got - exact), 1)


if __name__ == "__main__":
    unittest.main()
