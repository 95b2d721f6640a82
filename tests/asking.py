"""What the tests share: asking call by call, nets, and a second reckoning from the document's words."""

from fractions import Fraction
from math import floor

from currenthouse.house import answers

OPEN, LINE, MADE, USED, FLOW, RATE, FEE, EXCESSES, RINGLESS, MIX, ENDS = range(11)
FROM, OVER, LOST, WEIGHT, WEIGHTS, FEES, FEES_OF_USE, WAYS, LINE_IS, STATE = range(11, 21)

GREATEST = 10 ** 9
GREATEST_RATE = 10 ** 6
GREATEST_FEE = 10 ** 12
FAR = 10 ** 18
BIG_PRIMES = (999999937, 999999929, 999999893, 999999883, 999999797, 999999761, 999999757, 999999751)


def flat(calls):
    return [number for call in calls for number in call]


def parted(given):
    """The one list of answers, as a list for each call."""
    found = []
    start = 0
    while start < len(given):
        count = given[start]
        if count < 1 or start + 1 + count > len(given):
            raise AssertionError(f"the count at {start} doesn't fit: {given}")
        found.append(given[start + 1:start + 1 + count])
        start += 1 + count
    return found


def ask(*calls):
    """Each call's answer; all of them must be plain whole numbers in one plain list."""
    given = answers(flat(calls))
    if type(given) is not list or any(type(number) is not int for number in given):
        raise AssertionError(f"not a list of whole numbers alone: {given}")
    found = parted(given)
    if len(found) != len(calls):
        raise AssertionError(f"{len(calls)} calls, {len(found)} answers")
    return found


def last(*calls):
    return ask(*calls)[-1]


def told(*fractions):
    """The answer that tells these fractions."""
    numbers = [0]
    for fraction in fractions:
        exact = Fraction(fraction)
        numbers += [exact.numerator, exact.denominator]
    return numbers


def net(nodes, made, used, lines, rates=(), fees=()):
    """The calls that build a net. made, used, rates: dicts by node; lines: (from, to, sent, comes); fees: by line."""
    calls = [(OPEN, nodes)]
    calls += [(MADE, node, amount) for node, amount in made.items()]
    calls += [(USED, node, amount) for node, amount in used.items()]
    for number, (origin, to, sent, comes) in enumerate(lines, start=1):
        calls += [(LINE, origin, to), (FLOW, number, sent, comes)]
    calls += [(RATE, node, rate) for node, rate in dict(rates).items()]
    calls += [(FEE, line, fee) for line, fee in dict(fees).items()]
    return calls


def fractions(answer):
    """The fractions that an accepted call tells; each must be in lowest terms, with a denominator above 0."""
    if answer[0] != 0:
        raise AssertionError(f"refused: {answer}")
    found = []
    for top, bottom in zip(answer[1::2], answer[2::2], strict=True):
        exact = Fraction(top, bottom)
        if (exact.numerator, exact.denominator) != (top, bottom):
            raise AssertionError(f"not in lowest terms: {top} {bottom}")
        found.append(exact)
    return found


def great_net():
    """What net takes for a chain over all 8 nodes with all 12 lines: each node sends to the next one, the
    first five to the one behind that too, nearly as much as can be. Each adds a prime to the denominators."""
    pairs = [(node, node + 1) for node in range(1, 8)] + [(node, node + 2) for node in range(1, 6)]
    made = dict(enumerate(BIG_PRIMES[:5] + (10007, 1009, 101), start=1))
    used, flows = {}, {}
    for node in range(1, 9):
        came = sum(flows[pair][1] for pair in pairs if pair[1] == node)
        outward = [pair for pair in pairs if pair[0] == node]
        left = made[node] + came
        most = min(GREATEST, left // max(len(outward), 1))
        for k, pair in enumerate(outward):
            sent = most - node - k
            flows[pair] = (sent, sent - 100003 * node - 50021 * k)
            left -= sent
        used[node] = left
    lines = [pair + flows[pair] for pair in pairs]
    rates = {node: GREATEST_RATE - node for node in range(1, 9)}
    fees = {number: GREATEST_FEE - number for number in range(1, 13)}
    return made, used, lines, rates, fees


class Draw:
    """The same numbers in every run."""

    def __init__(self, seed):
        self.state = seed

    def number(self, low, high):
        self.state = (self.state * 6364136223846793005 + 1442695040888963407) % 2 ** 64
        return low + (self.state >> 20) % (high - low + 1)

    def one_of(self, choices):
        return choices[self.number(0, len(choices) - 1)]


def drawn_flow(draw, most, busy):
    if busy and most > 1:
        sent = draw.number(1, most // 2)
        return sent, draw.one_of([sent, draw.number(1, sent), draw.number(1, sent)])
    sent = draw.one_of([0, draw.number(0, most), most])
    return sent, draw.one_of([0, sent, sent, draw.number(0, sent)])


def drawn_sound_net(draw, greatest):
    """A balanced net without a ring: its nodes in some order, each sending to later ones alone.

    Every second one is busy: something is made in each node, and much goes over all 12 lines.
    """
    busy = draw.number(0, 1) == 1
    nodes = draw.number(1, 8)
    order = []
    for node in range(1, nodes + 1):
        order.insert(draw.number(0, len(order)), node)
    pairs = []
    if nodes > 1:
        for _ in range(12 if busy else draw.number(0, 12)):
            first = draw.number(0, nodes - 2)
            pairs.append((order[first], order[draw.number(first + 1, min(first + 3, nodes - 1))]))
    made, used, flows = {}, {}, {}
    for node in order:
        came = sum(flows[k][1] for k, pair in enumerate(pairs) if pair[1] == node)
        made[node] = draw.number(1, greatest) if busy else draw.one_of([0, draw.number(0, greatest)])
        left = made[node] + came
        for k, pair in enumerate(pairs):
            if pair[0] == node:
                flows[k] = drawn_flow(draw, min(left, greatest), busy)
                left -= flows[k][0]
        if left > greatest:
            return drawn_sound_net(draw, greatest)
        used[node] = left
    return net(nodes, made, used, [pair + flows[k] for k, pair in enumerate(pairs)])


def drawn_weighed_net(draw, greatest):
    """A drawn sound net with rates and fees."""
    calls = drawn_sound_net(draw, greatest)
    for node in range(1, calls[0][1] + 1):
        rate = draw.one_of([0, draw.number(-9, 9), draw.number(-GREATEST_RATE, GREATEST_RATE), -GREATEST_RATE])
        calls.append((RATE, node, rate))
    for line in range(1, 1 + sum(call[0] == LINE for call in calls)):
        calls.append((FEE, line, draw.one_of([0, draw.number(0, 20), draw.number(0, GREATEST_FEE), GREATEST_FEE])))
    return calls


class Reckoning:
    """The house once more, straight from the document, by other ways than the program's."""

    NODE, LINE_NUMBER, AMOUNT = (1, 8), (1, 12), (0, 10 ** 9)
    BOUNDS = {
        OPEN: [(1, 8)], LINE: [NODE, NODE], MADE: [NODE, AMOUNT], USED: [NODE, AMOUNT],
        FLOW: [LINE_NUMBER, AMOUNT, AMOUNT], RATE: [NODE, (-10 ** 6, 10 ** 6)], FEE: [LINE_NUMBER, (0, 10 ** 12)],
        EXCESSES: [], RINGLESS: [], MIX: [NODE], ENDS: [NODE], FROM: [NODE, NODE], OVER: [LINE_NUMBER], LOST: [NODE],
        WEIGHT: [NODE], WEIGHTS: [], FEES: [], FEES_OF_USE: [], WAYS: [NODE, NODE], LINE_IS: [LINE_NUMBER], STATE: [],
    }

    def __init__(self):
        self.nodes = None
        self.made = {}
        self.used = {}
        self.rates = {}
        self.lines = []
        self.fees = {}
        self.shares = {}
        self.ends = {}

    def through(self, i):
        return self.made.get(i, 0) + sum(comes for _, to, _, comes in self.lines if to == i)

    def excesses(self):
        gone = {i: self.used.get(i, 0) for i in self.nodes}
        for origin, _, sent, _ in self.lines:
            gone[origin] += sent
        return [self.through(i) - gone[i] for i in self.nodes]

    def ring(self):
        reached = {(origin, to) for origin, to, sent, _ in self.lines if sent > 0}
        for middle in self.nodes:
            for i in self.nodes:
                for j in self.nodes:
                    if (i, middle) in reached and (middle, j) in reached:
                        reached.add((i, j))
        return any((i, i) in reached for i in self.nodes)

    def share(self, a, i):
        if (a, i) not in self.shares:
            total = Fraction(self.made.get(i, 0) if a == i else 0)
            for origin, to, _, comes in self.lines:
                if to == i and comes > 0:
                    total += comes * self.share(a, origin)
            self.shares[a, i] = total / self.through(i) if self.through(i) > 0 else Fraction(0)
        return self.shares[a, i]

    def end(self, i, b):
        if (i, b) not in self.ends:
            total = Fraction(self.used.get(i, 0) if b == i else 0)
            for origin, to, _, comes in self.lines:
                if origin == i and comes > 0:
                    total += comes * self.end(to, b)
            self.ends[i, b] = total / self.through(i) if self.through(i) > 0 else Fraction(0)
        return self.ends[i, b]

    def part(self, a, line):
        return line[2] * self.share(a, line[0])

    def weight(self, i):
        return sum(self.rates.get(a, 0) * self.share(a, i) for a in self.nodes)

    def ways(self, a, b):
        found = 1 if a == b else 0
        for origin, to, _, comes in self.lines:
            if origin == a and comes > 0:
                found += self.ways(to, b)
        return found

    def parted(self, fee, parts):
        """The units that are lacking one by one, each to whom the most was rounded off of those without one."""
        if sum(parts) == 0:
            return [0] * len(parts)
        exact = [fee * part / sum(parts) for part in parts]
        gets = [floor(part) for part in exact]
        rounded_off = [part - floor(part) for part in exact]
        while sum(gets) < fee:
            luckiest = rounded_off.index(max(rounded_off))
            gets[luckiest] += 1
            rounded_off[luckiest] = -1
        return gets

    def gathered(self, parts_of_line):
        gets = [self.parted(self.fees.get(number, 0), parts_of_line(line))
                for number, line in enumerate(self.lines, start=1)]
        return [0] + [sum(of_node) for of_node in zip([0] * len(self.nodes), *gets, strict=True)]

    def call(self, place, *arguments):
        for value, (low, high) in zip(arguments, self.BOUNDS[place], strict=True):
            if not low <= value <= high:
                return [-1]
        if place == OPEN:
            if self.nodes is not None:
                return [-3]
            self.nodes = range(1, arguments[0] + 1)
            return [0]
        if self.nodes is None:
            return [-2]
        if place in (MADE, USED, RATE, MIX, ENDS, LOST, WEIGHT) and arguments[0] not in self.nodes:
            return [-5]
        if place in (LINE, FROM, WAYS) and any(node not in self.nodes for node in arguments):
            return [-5]
        if place in (FLOW, FEE, OVER, LINE_IS) and arguments[0] > len(self.lines):
            return [-6]
        if place <= FEE:
            self.shares = {}
            self.ends = {}
            return self.change(place, arguments)
        if MIX <= place <= WAYS and (any(self.excesses()) or self.ring()):
            return [-8]
        return self.asked(place, arguments)

    def change(self, place, arguments):
        if place == LINE:
            if arguments[0] == arguments[1]:
                return [-7]
            if len(self.lines) == 12:
                return [-4]
            self.lines.append(tuple(arguments) + (0, 0))
            return [0, len(self.lines)]
        if place == FLOW:
            if arguments[2] > arguments[1]:
                return [-7]
            self.lines[arguments[0] - 1] = self.lines[arguments[0] - 1][:2] + tuple(arguments[1:])
        if place in (MADE, USED, RATE, FEE):
            kept = {MADE: self.made, USED: self.used, RATE: self.rates, FEE: self.fees}[place]
            kept[arguments[0]] = arguments[1]
        return [0]

    def asked(self, place, arguments):
        first = arguments[0] if arguments else None
        if place == EXCESSES:
            return [0] + self.excesses()
        if place == RINGLESS:
            return [0, 0 if self.ring() else 1]
        if place == MIX:
            return told(*[self.share(a, first) for a in self.nodes])
        if place == ENDS:
            return told(*[self.end(first, b) for b in self.nodes])
        if place == FROM:
            return told(self.made.get(first, 0) * self.end(first, arguments[1]))
        if place == OVER:
            return told(*[self.part(a, self.lines[first - 1]) for a in self.nodes])
        if place == LOST:
            return told(sum((line[2] - line[3]) * self.share(first, line[0]) for line in self.lines))
        if place == WEIGHT:
            return told(self.weight(first), self.used.get(first, 0) * self.weight(first))
        if place == WEIGHTS:
            of_use = sum(self.used.get(i, 0) * self.weight(i) for i in self.nodes)
            of_losses = sum((line[2] - line[3]) * self.weight(line[0]) for line in self.lines)
            return told(of_use, of_losses) + [sum(self.rates.get(a, 0) * self.made.get(a, 0) for a in self.nodes)]
        if place == FEES:
            return self.gathered(lambda line: [self.part(a, line) for a in self.nodes])
        if place == FEES_OF_USE:
            return self.gathered(lambda line: [line[3] * self.end(line[1], b) for b in self.nodes])
        if place == WAYS:
            return [0, self.ways(*arguments)]
        if place == LINE_IS:
            return [0, *self.lines[first - 1], self.fees.get(first, 0)]
        return [0, len(self.nodes), len(self.lines)] + [
            kept.get(node, 0) for node in self.nodes for kept in (self.made, self.used, self.rates)]


def reckoned(*calls):
    reckoning = Reckoning()
    return [reckoning.call(*call) for call in calls]
