"""How calls and answers lie in their lists, and that nothing is changed or kept."""

import unittest

from currenthouse.house import answers
from tests.asking import (
    ENDS, EXCESSES, FEE, FEES, FEES_OF_USE, FLOW, FROM, GREATEST, LINE, LINE_IS, LOST, MADE, MIX, OPEN, OVER, RATE,
    RINGLESS, STATE, USED, WAYS, WEIGHT, WEIGHTS, Draw, Reckoning, ask, flat, net, reckoned,
)

# Every call once at the least, number by number.
WHOLE = [0, 3, 2, 1, 7, 1, 1, 2, 4, 1, 7, 5, 3, 2, 6, 7, 2, 2, 1, 8, 9, 2, 10, 1, 5, 1, -4, 6, 1, 9, 9, 4, 0, 3,
         11, 1, 2, 12, 1, 13, 1, 14, 2, 15, 16, 17, 18, 1, 2, 19, 1, 20, 12, 2]
ANSWERED = [1, 0, 1, 0, 2, 0, 1, 1, 0, 1, 0, 4, 0, 0, -1, 0, 1, 0, 2, 0, 1, 7, 0, 5, 6, 1, 6, 0, 1,
            7, 0, 0, 1, 5, 7, 0, 1, 1, 0, 1, 0, 1, -5, 1, -3,
            3, 0, 5, 1, 7, 0, 7, 1, 0, 1, 0, 1, 3, 0, 2, 1, 5, 0, -10, 3, -20, 1, 6, 0, -20, 1, -8, 1, -28,
            4, 0, 9, 0, 0, 4, 0, 0, 9, 0, 2, 0, 1, 6, 0, 1, 2, 7, 5, 9, 12, 0, 3, 1, 7, 0, -4, 1, 6, 0, 0, 0, 0, 1, -6]

EVERY = (OPEN, LINE, MADE, USED, FLOW, RATE, FEE, EXCESSES, RINGLESS, MIX, ENDS, FROM, OVER, LOST, WEIGHT, WEIGHTS,
         FEES, FEES_OF_USE, WAYS, LINE_IS, STATE)


class Lists(unittest.TestCase):
    def test_number_by_number(self):
        self.assertEqual(answers(list(WHOLE)), ANSWERED)

    def test_a_single_call(self):
        self.assertEqual(answers([0, 8]), [1, 0])
        self.assertEqual(answers([0, 9]), [1, -1])
        self.assertEqual(answers([7]), [1, -2])

    def test_plain_whole_numbers(self):
        given = answers(list(WHOLE))
        self.assertIs(type(given), list)
        for number in given:
            self.assertIs(type(number), int)

    def test_what_is_handed_in_is_not_changed(self):
        for numbers in (WHOLE, [7], [0, 9], flat(net(2, {1: 5}, {2: 5}, [(1, 2, 5, 5)]) + [(MIX, 2), (ENDS, 1)])):
            handed = list(numbers)
            given = answers(handed)
            self.assertEqual(handed, numbers)
            self.assertIsNot(given, handed)

    def test_what_is_handed_in_is_not_changed_for_a_while_either(self):
        class Fixed(list):
            def changed(self, *arguments):
                raise AssertionError("the list was changed")

            append = extend = insert = pop = remove = clear = sort = reverse = changed
            __setitem__ = __delitem__ = __iadd__ = __imul__ = changed

        self.assertEqual(answers(Fixed(WHOLE)), ANSWERED)

    def test_nothing_is_kept(self):
        handed = list(WHOLE)
        first = answers(handed)
        self.assertEqual(answers([7]), [1, -2])
        second = answers(handed)
        self.assertEqual(first, second)
        second.append(5)
        self.assertEqual(answers(handed), first)

    def test_arguments_that_look_like_calls(self):
        self.assertEqual(ask((OPEN, 8), (MADE, 7, 8), (USED, 7, 8), (MIX, 7), (EXCESSES,)),
                         [[0], [0], [0], [0] + [0, 1] * 6 + [1, 1, 0, 1], [0] * 9])

    def test_two_hundred_calls(self):
        self.assertEqual(ask(*[(OPEN, 8)] * 200), [[0]] + [[-3]] * 199)
        self.assertEqual(ask(*[(RINGLESS,)] * 200), [[-2]] * 200)


class DrawnCalls(unittest.TestCase):
    def drawn_number(self, draw, low, high):
        kind = draw.number(0, 9)
        if kind == 0:
            return draw.one_of([low - 1, high + 1, -10 ** 18, 10 ** 18])
        if kind == 1:
            return draw.one_of([low, high])
        return draw.number(low, min(high, low + 3))

    def drawn_call(self, draw):
        place = draw.one_of(EVERY + (LINE, FLOW))
        return (place,) + tuple(self.drawn_number(draw, low, high) for low, high in Reckoning.BOUNDS[place])

    def test_as_reckoned(self):
        draw = Draw(3)
        for _ in range(150):
            calls = [self.drawn_call(draw) for _ in range(draw.number(1, 200))]
            if draw.number(0, 9) > 0:
                calls[0] = (OPEN, draw.number(1, 8))
            self.assertEqual(ask(*calls), reckoned(*calls))

    def test_small_houses_as_reckoned(self):
        draw = Draw(5)
        accepted = dict.fromkeys(EVERY, 0)
        for _ in range(300):
            calls = [(OPEN, 2), (LINE, 1, 2), (LINE, 2, 1)]
            while len(calls) < 200:
                calls.append(draw.one_of([
                    (MADE, draw.number(1, 3), draw.number(0, 1)), (USED, draw.number(1, 3), draw.number(0, 1)),
                    (FLOW, draw.number(1, 3), draw.number(0, 1), draw.number(0, 1)),
                    (RATE, draw.number(1, 3), draw.number(-3, 3)), (FEE, draw.number(1, 3), draw.number(0, 3)),
                    self.asking(draw), self.asking(draw), self.asking(draw),
                ]))
            found = ask(*calls)
            self.assertEqual(found, reckoned(*calls))
            for call, answer in zip(calls, found):
                accepted[call[0]] += answer[0] == 0
        self.assertGreater(min(accepted[place] for place in EVERY), 50)

    def asking(self, draw):
        place = draw.one_of(EVERY[EXCESSES:])
        return (place,) + tuple(draw.number(1, 3) for _ in Reckoning.BOUNDS[place])

    def test_the_greatest_amounts_as_reckoned(self):
        draw = Draw(11)
        for _ in range(50):
            calls = [(OPEN, 8)]
            for number in range(1, 13):
                calls.append((LINE, draw.number(1, 8), draw.number(1, 8)))
                calls.append((FLOW, number, GREATEST, draw.number(0, GREATEST)))
            calls += [(place,) + (1,) * len(Reckoning.BOUNDS[place]) for place in EVERY[EXCESSES:]]
            self.assertEqual(ask(*calls), reckoned(*calls))


if __name__ == "__main__":
    unittest.main()
