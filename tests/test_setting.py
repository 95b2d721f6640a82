"""The calls that set something: open, line, made, used, flow, rate, fee."""

import unittest

from tests.asking import (
    ENDS, EXCESSES, FAR, FEE, FLOW, GREATEST, LINE, LINE_IS, MADE, MIX, OPEN, RATE, RINGLESS, STATE, USED, ask, last,
)


class Open(unittest.TestCase):
    def test_each_number_of_nodes(self):
        for nodes in range(1, 9):
            self.assertEqual(ask((OPEN, nodes), (EXCESSES,)), [[0], [0] + [0] * nodes])

    def test_beyond_the_range(self):
        for nodes in (0, 9, -1, FAR, -FAR):
            self.assertEqual(ask((OPEN, nodes), (EXCESSES,)), [[-1], [-2]])

    def test_a_second_time(self):
        self.assertEqual(ask((OPEN, 2), (OPEN, 5), (EXCESSES,)), [[0], [-3], [0, 0, 0]])
        self.assertEqual(ask((OPEN, 2), (OPEN, 2)), [[0], [-3]])

    def test_a_second_time_keeps_what_was_set(self):
        self.assertEqual(last((OPEN, 2), (MADE, 1, 7), (LINE, 1, 2), (OPEN, 2), (EXCESSES,)), [0, 7, 0])

    def test_the_range_comes_before_being_open_already(self):
        for nodes in (0, 9):
            self.assertEqual(last((OPEN, 2), (OPEN, nodes)), [-1])

    def test_a_refused_one_leaves_the_next_free(self):
        self.assertEqual(ask((OPEN, 9), (OPEN, 8), (OPEN, 8)), [[-1], [0], [-3]])


class BeforeOpen(unittest.TestCase):
    def test_every_other_call_is_refused(self):
        calls = [(LINE, 1, 2), (MADE, 1, 1), (USED, 1, 1), (FLOW, 1, 1, 1), (RATE, 1, 1), (FEE, 1, 1),
                 (EXCESSES,), (RINGLESS,), (MIX, 1), (ENDS, 1)]
        for call in calls:
            self.assertEqual(ask(call), [[-2]], call)
        self.assertEqual(ask(*calls), [[-2]] * len(calls))

    def test_before_the_calls_own_refusals(self):
        for call in [(LINE, 1, 1), (LINE, 8, 8), (FLOW, 1, 0, 1), (MIX, 8), (ENDS, 8), (FEE, 12, 0), (MADE, 8, 0)]:
            self.assertEqual(ask(call), [[-2]], call)

    def test_the_range_comes_first(self):
        for call in [(LINE, 0, 1), (LINE, 1, 9), (MADE, 9, 0), (MADE, 1, -1), (USED, 0, 0), (USED, 1, GREATEST + 1),
                     (FLOW, 13, 0, 0), (FLOW, 0, 0, 0), (FLOW, 1, -1, 0), (FLOW, 1, 0, -1), (RATE, 9, 0),
                     (RATE, 1, 1000001), (FEE, 13, 0), (FEE, 1, -1), (MIX, 0), (MIX, 9), (ENDS, 0), (ENDS, 9)]:
            self.assertEqual(ask(call), [[-1]], call)

    def test_what_was_refused_has_changed_nothing(self):
        self.assertEqual(last((MADE, 1, 5), (USED, 1, 3), (LINE, 1, 2), (OPEN, 2), (EXCESSES,)), [0, 0, 0])
        self.assertEqual(last((LINE, 1, 2), (OPEN, 2), (LINE, 1, 2)), [0, 1])


class Lines(unittest.TestCase):
    def test_numbers_in_the_order_in_which_they_came(self):
        calls = [(LINE, 1 + k % 8, 1 + (k + 1) % 8) for k in range(12)]
        self.assertEqual(ask((OPEN, 8), *calls), [[0]] + [[0, k] for k in range(1, 13)])

    def test_several_between_the_same_nodes(self):
        calls = [(LINE, 1, 2)] * 6 + [(LINE, 2, 1)] * 6
        self.assertEqual(ask((OPEN, 2), *calls), [[0]] + [[0, k] for k in range(1, 13)])

    def test_a_thirteenth(self):
        calls = [(LINE, 1, 2)] * 12
        self.assertEqual(ask((OPEN, 3), *calls, (LINE, 2, 3), (LINE, 1, 2), (FLOW, 12, 3, 1), (EXCESSES,))[13:],
                         [[-4], [-4], [0], [0, -3, 1, 0]])

    def test_a_node_that_is_not_there(self):
        for ends in [(3, 1), (1, 3), (3, 4), (8, 1), (2, 8)]:
            self.assertEqual(last((OPEN, 2), (LINE,) + ends), [-5], ends)
        self.assertEqual(last((OPEN, 3), (LINE, 3, 1)), [0, 1])
        self.assertEqual(last((OPEN, 3), (LINE, 1, 3)), [0, 1])

    def test_to_itself(self):
        self.assertEqual(last((OPEN, 2), (LINE, 1, 1)), [-7])
        self.assertEqual(last((OPEN, 8), (LINE, 8, 8)), [-7])
        self.assertEqual(last((OPEN, 1), (LINE, 1, 1)), [-7])

    def test_beyond_the_range(self):
        for ends in [(0, 1), (1, 0), (9, 1), (1, 9), (0, 0), (9, 9), (-1, 2), (FAR, 1), (1, -FAR)]:
            self.assertEqual(last((OPEN, 8), (LINE,) + ends), [-1], ends)

    def test_which_refusal_comes_first(self):
        full = [(OPEN, 2)] + [(LINE, 1, 2)] * 12
        self.assertEqual(last((OPEN, 2), (LINE, 3, 3)), [-5])
        self.assertEqual(last(*full, (LINE, 3, 3)), [-5])
        self.assertEqual(last(*full, (LINE, 3, 1)), [-5])
        self.assertEqual(last(*full, (LINE, 1, 1)), [-7])
        self.assertEqual(last(*full, (LINE, 2, 1)), [-4])
        self.assertEqual(last(*full, (LINE, 9, 9)), [-1])
        self.assertEqual(last(*full, (LINE, 3, 9)), [-1])

    def test_a_refused_one_takes_no_number(self):
        self.assertEqual(ask((OPEN, 2), (LINE, 1, 1), (LINE, 1, 3), (LINE, 0, 1), (LINE, 2, 1)),
                         [[0], [-7], [-5], [-1], [0, 1]])

    def test_leads_from_the_first_to_the_second(self):
        self.assertEqual(last((OPEN, 3), (LINE, 3, 2), (FLOW, 1, 9, 4), (EXCESSES,)), [0, 0, 4, -9])


class MadeAndUsed(unittest.TestCase):
    SIGNS = ((MADE, 1), (USED, -1))

    def test_sets_that_node_alone(self):
        for place, sign in self.SIGNS:
            self.assertEqual(ask((OPEN, 3), (place, 2, 5), (EXCESSES,)), [[0], [0], [0, 0, sign * 5, 0]])

    def test_the_later_one_holds(self):
        for place, sign in self.SIGNS:
            self.assertEqual(last((OPEN, 1), (place, 1, 5), (place, 1, 3), (EXCESSES,)), [0, sign * 3])
            self.assertEqual(last((OPEN, 1), (place, 1, 5), (place, 1, 0), (EXCESSES,)), [0, 0])

    def test_the_edges(self):
        for place, sign in self.SIGNS:
            for amount in (0, 1, GREATEST - 1, GREATEST):
                self.assertEqual(ask((OPEN, 8), (place, 8, amount), (EXCESSES,))[1:],
                                 [[0], [0] * 8 + [sign * amount]])

    def test_beyond_the_edges(self):
        for place, sign in self.SIGNS:
            for node, amount in [(1, -1), (1, GREATEST + 1), (0, 1), (9, 1), (1, FAR), (1, -FAR), (FAR, 1), (-FAR, 1)]:
                self.assertEqual(ask((OPEN, 8), (place, 1, 4), (place, node, amount), (EXCESSES,))[2:],
                                 [[-1], [0, sign * 4] + [0] * 7], (place, node, amount))

    def test_a_node_that_is_not_there(self):
        for place, sign in self.SIGNS:
            for node in (3, 8):
                self.assertEqual(ask((OPEN, 2), (place, 2, 4), (place, node, 1), (EXCESSES,))[2:],
                                 [[-5], [0, 0, sign * 4]])

    def test_the_range_comes_before_the_node(self):
        for place, _ in self.SIGNS:
            self.assertEqual(last((OPEN, 2), (place, 3, -1)), [-1])
            self.assertEqual(last((OPEN, 2), (place, 3, GREATEST + 1)), [-1])


class Flow(unittest.TestCase):
    TWO = ((OPEN, 2), (LINE, 1, 2))

    def test_what_is_sent_and_what_comes(self):
        for sent, comes in [(5, 3), (5, 5), (5, 0), (0, 0), (GREATEST, GREATEST), (GREATEST, 0), (GREATEST, 1)]:
            self.assertEqual(ask(*self.TWO, (FLOW, 1, sent, comes), (EXCESSES,))[2:], [[0], [0, -sent, comes]])

    def test_the_later_one_holds(self):
        self.assertEqual(last(*self.TWO, (FLOW, 1, 9, 8), (FLOW, 1, 4, 1), (EXCESSES,)), [0, -4, 1])

    def test_sets_that_line_alone(self):
        self.assertEqual(last((OPEN, 3), (LINE, 1, 2), (LINE, 2, 3), (FLOW, 2, 7, 6), (EXCESSES,)), [0, 0, -7, 6])

    def test_more_comes_than_is_sent(self):
        for sent, comes in [(0, 1), (4, 5), (GREATEST - 1, GREATEST)]:
            self.assertEqual(ask(*self.TWO, (FLOW, 1, 3, 2), (FLOW, 1, sent, comes), (EXCESSES,))[3:],
                             [[-7], [0, -3, 2]])

    def test_no_such_line(self):
        self.assertEqual(last((OPEN, 2), (FLOW, 1, 0, 0)), [-6])
        for line in (2, 12):
            self.assertEqual(ask(*self.TWO, (FLOW, line, 1, 1), (EXCESSES,))[2:], [[-6], [0, 0, 0]])

    def test_the_last_of_twelve(self):
        self.assertEqual(last((OPEN, 2), *[(LINE, 1, 2)] * 12, (FLOW, 12, 1, 1)), [0])
        self.assertEqual(last((OPEN, 2), *[(LINE, 1, 2)] * 11, (FLOW, 12, 1, 1)), [-6])

    def test_beyond_the_range(self):
        for call in [(0, 1, 1), (13, 1, 1), (1, -1, 0), (1, GREATEST + 1, 0), (1, 1, -1),
                     (1, GREATEST, GREATEST + 1), (1, FAR, FAR), (1, -FAR, -FAR), (FAR, 0, 0), (-FAR, 0, 0)]:
            self.assertEqual(ask(*self.TWO, (FLOW, 1, 3, 2), (FLOW,) + call, (EXCESSES,))[3:],
                             [[-1], [0, -3, 2]], call)

    def test_which_refusal_comes_first(self):
        self.assertEqual(last(*self.TWO, (FLOW, 2, 1, 2)), [-6])
        self.assertEqual(last(*self.TWO, (FLOW, 2, 0, GREATEST + 1)), [-1])
        self.assertEqual(last(*self.TWO, (FLOW, 1, 0, GREATEST + 1)), [-1])
        self.assertEqual(last(*self.TWO, (FLOW, 13, 1, 2)), [-1])


class RateAndFee(unittest.TestCase):
    HOUSE = ((OPEN, 3), (LINE, 1, 2), (LINE, 2, 3))

    def kept(self, *calls):
        """What these calls leave: the three nodes' rates and the two lines' fees."""
        first, second, state = ask(*self.HOUSE, *calls, (LINE_IS, 1), (LINE_IS, 2), (STATE,))[-3:]
        return state[5::3], [first[5], second[5]]

    def test_0_at_first(self):
        self.assertEqual(self.kept(), ([0, 0, 0], [0, 0]))

    def test_the_edges_of_rate(self):
        for rate in (-1000000, -1, 0, 1, 1000000):
            self.assertEqual(last(*self.HOUSE, (RATE, 3, rate)), [0])
            self.assertEqual(self.kept((RATE, 3, rate)), ([0, 0, rate], [0, 0]))

    def test_the_edges_of_fee(self):
        for fee in (0, 1, 10 ** 12 - 1, 10 ** 12):
            self.assertEqual(last(*self.HOUSE, (FEE, 2, fee)), [0])
            self.assertEqual(self.kept((FEE, 2, fee)), ([0, 0, 0], [0, fee]))

    def test_the_later_one_holds(self):
        self.assertEqual(self.kept((RATE, 1, 5), (RATE, 1, -6), (FEE, 1, 7), (FEE, 1, 2)), ([-6, 0, 0], [2, 0]))

    def test_a_refused_one_changes_nothing(self):
        refused = {(RATE, 1, 1000001): -1, (RATE, 1, -1000001): -1, (RATE, 0, 1): -1, (RATE, 9, 1): -1,
                   (RATE, 4, 1): -5, (RATE, 8, 1): -5, (RATE, 4, 1000001): -1,
                   (FEE, 1, -1): -1, (FEE, 1, 10 ** 12 + 1): -1, (FEE, 0, 1): -1, (FEE, 13, 1): -1,
                   (FEE, 3, 1): -6, (FEE, 12, 1): -6, (FEE, 3, -1): -1}
        before = ((RATE, 1, 5), (FEE, 1, 6))
        for call, refusal in refused.items():
            self.assertEqual(last(*self.HOUSE, *before, call), [refusal], call)
            self.assertEqual(self.kept(*before, call), ([5, 0, 0], [6, 0]), call)

    def test_through_the_interface(self):
        self.assertEqual(ask((OPEN, 2), (RATE, 2, -1000000), (RATE, 3, 0), (RATE, 2, 1000001), (FEE, 1, 0),
                             (LINE, 1, 2), (FEE, 1, 10 ** 12), (FEE, 1, 10 ** 12 + 1), (FEE, 2, 0)),
                         [[0], [0], [-5], [-1], [-6], [0, 1], [0], [-1], [-6]])

    def test_a_second_opening_keeps_them(self):
        before = ((RATE, 1, 5), (FEE, 1, 6), (OPEN, 3))
        self.assertEqual(last(*self.HOUSE, *before), [-3])
        self.assertEqual(self.kept(*before), ([5, 0, 0], [6, 0]))

    def test_neither_has_to_do_with_the_flow(self):
        sound = [(OPEN, 2), (MADE, 1, 3), (LINE, 1, 2), (FLOW, 1, 3, 2), (USED, 2, 2)]
        asked = [(EXCESSES,), (RINGLESS,), (MIX, 2), (ENDS, 1)]
        self.assertEqual(ask(*sound, (RATE, 1, 9), (FEE, 1, 9), *asked)[7:], ask(*sound, *asked)[5:])


if __name__ == "__main__":
    unittest.main()
