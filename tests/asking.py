"""What the tests share: asking call by call, nets, and a second reckoning from the document's words."""

from fractions import Fraction

from currenthouse.house import answers

OPEN, LINE, MADE, USED, FLOW, RATE, FEE, EXCESSES, RINGLESS, MIX, ENDS = range(11)

GREATEST = 10 ** 9


def flat(calls):
    return [number for call in calls for number in call]


def parted(given):
    """The one list of answers, as a list for each call."""
    found = []
    start = 0
    while start < len(given):
        count = given[start]
        if count < 1 or start + 1 + count > len(given):
            raise AssertionError(f"the count at {start} doesn't fit: {given}")
        found.append(given[start + 1:start + 1 + count])
        start += 1 + count
    return found


def ask(*calls):
    """Each call's answer; all of them must be plain whole numbers in one plain list."""
    given = answers(flat(calls))
    if type(given) is not list or any(type(number) is not int for number in given):
        raise AssertionError(f"not a list of whole numbers alone: {given}")
    found = parted(given)
    if len(found) != len(calls):
        raise AssertionError(f"{len(calls)} calls, {len(found)} answers")
    return found


def last(*calls):
    return ask(*calls)[-1]


def told(*fractions):
    """The answer of mix or ends that tells these fractions."""
    numbers = [0]
    for fraction in fractions:
        exact = Fraction(fraction)
        numbers += [exact.numerator, exact.denominator]
    return numbers


def net(nodes, made, used, lines):
    """The calls that build a net. made, used: dicts by node; lines: (from, to, sent, comes)."""
    calls = [(OPEN, nodes)]
    calls += [(MADE, node, amount) for node, amount in made.items()]
    calls += [(USED, node, amount) for node, amount in used.items()]
    for number, (origin, to, sent, comes) in enumerate(lines, start=1):
        calls += [(LINE, origin, to), (FLOW, number, sent, comes)]
    return calls


class Draw:
    """The same numbers in every run."""

    def __init__(self, seed):
        self.state = seed

    def number(self, low, high):
        self.state = (self.state * 6364136223846793005 + 1442695040888963407) % 2 ** 64
        return low + (self.state >> 20) % (high - low + 1)

    def one_of(self, choices):
        return choices[self.number(0, len(choices) - 1)]


def drawn_sound_net(draw, greatest):
    """A balanced net without a ring: its nodes in some order, each sending to later ones alone."""
    nodes = draw.number(1, 8)
    order = []
    for node in range(1, nodes + 1):
        order.insert(draw.number(0, len(order)), node)
    pairs = []
    if nodes > 1:
        for _ in range(draw.number(0, 12)):
            first = draw.number(0, nodes - 2)
            pairs.append((order[first], order[draw.number(first + 1, nodes - 1)]))
    made, used, flows = {}, {}, {}
    for node in order:
        came = sum(flows[k][1] for k, pair in enumerate(pairs) if pair[1] == node)
        made[node] = draw.one_of([0, draw.number(0, greatest)])
        left = made[node] + came
        for k, pair in enumerate(pairs):
            if pair[0] == node:
                sent = draw.one_of([0, draw.number(0, min(left, greatest)), min(left, greatest)])
                comes = draw.one_of([0, sent, sent, draw.number(0, sent)])
                flows[k] = (sent, comes)
                left -= sent
        if left > greatest:
            return drawn_sound_net(draw, greatest)
        used[node] = left
    return net(nodes, made, used, [pair + flows[k] for k, pair in enumerate(pairs)])


class Reckoning:
    """The house once more, straight from the document, by other ways than the program's."""

    BOUNDS = {
        OPEN: [(1, 8)], LINE: [(1, 8), (1, 8)], MADE: [(1, 8), (0, 10 ** 9)], USED: [(1, 8), (0, 10 ** 9)],
        FLOW: [(1, 12), (0, 10 ** 9), (0, 10 ** 9)], RATE: [(1, 8), (-10 ** 6, 10 ** 6)],
        FEE: [(1, 12), (0, 10 ** 12)], EXCESSES: [], RINGLESS: [], MIX: [(1, 8)], ENDS: [(1, 8)],
    }

    def __init__(self):
        self.nodes = None
        self.made = {}
        self.used = {}
        self.lines = []

    def through(self, i):
        return self.made.get(i, 0) + sum(comes for _, to, _, comes in self.lines if to == i)

    def excesses(self):
        gone = {i: self.used.get(i, 0) for i in self.nodes}
        for origin, _, sent, _ in self.lines:
            gone[origin] += sent
        return [self.through(i) - gone[i] for i in self.nodes]

    def ring(self):
        reached = {(origin, to) for origin, to, sent, _ in self.lines if sent > 0}
        for middle in self.nodes:
            for i in self.nodes:
                for j in self.nodes:
                    if (i, middle) in reached and (middle, j) in reached:
                        reached.add((i, j))
        return any((i, i) in reached for i in self.nodes)

    def share(self, a, i):
        if self.through(i) == 0:
            return Fraction(0)
        total = Fraction(self.made.get(i, 0) if a == i else 0)
        for origin, to, _, comes in self.lines:
            if to == i and comes > 0:
                total += comes * self.share(a, origin)
        return total / self.through(i)

    def end(self, i, b):
        if self.through(i) == 0:
            return Fraction(0)
        total = Fraction(self.used.get(i, 0) if b == i else 0)
        for origin, to, _, comes in self.lines:
            if origin == i and comes > 0:
                total += comes * self.end(to, b)
        return total / self.through(i)

    def call(self, place, *arguments):
        for value, (low, high) in zip(arguments, self.BOUNDS[place], strict=True):
            if not low <= value <= high:
                return [-1]
        if place == OPEN:
            if self.nodes is not None:
                return [-3]
            self.nodes = range(1, arguments[0] + 1)
            return [0]
        if self.nodes is None:
            return [-2]
        if place in (MADE, USED, RATE, MIX, ENDS) and arguments[0] not in self.nodes:
            return [-5]
        if place in (FLOW, FEE) and arguments[0] > len(self.lines):
            return [-6]
        return self.accepted(place, arguments)

    def accepted(self, place, arguments):
        if place == LINE:
            if any(node not in self.nodes for node in arguments):
                return [-5]
            if arguments[0] == arguments[1]:
                return [-7]
            if len(self.lines) == 12:
                return [-4]
            self.lines.append(tuple(arguments) + (0, 0))
            return [0, len(self.lines)]
        if place == FLOW:
            if arguments[2] > arguments[1]:
                return [-7]
            self.lines[arguments[0] - 1] = self.lines[arguments[0] - 1][:2] + tuple(arguments[1:])
        if place in (MADE, USED):
            (self.made if place == MADE else self.used)[arguments[0]] = arguments[1]
        if place == EXCESSES:
            return [0] + self.excesses()
        if place == RINGLESS:
            return [0, 0 if self.ring() else 1]
        if place in (MIX, ENDS):
            if any(self.excesses()) or self.ring():
                return [-8]
            if place == MIX:
                return told(*[self.share(a, arguments[0]) for a in self.nodes])
            return told(*[self.end(arguments[0], b) for b in self.nodes])
        return [0]


def reckoned(*calls):
    reckoning = Reckoning()
    return [reckoning.call(*call) for call in calls]
