"""The calls on one house, from one list of numbers to one list of numbers."""

from currenthouse.mixture import ends, shares
from currenthouse.net import Line, Net, excess, has_ring, is_sound

OUT_OF_RANGE = -1
NOT_OPENED = -2
OPENED_ALREADY = -3
TOO_MANY_LINES = -4
NO_SUCH_NODE = -5
NO_SUCH_LINE = -6
NOT_FITTING = -7
NOT_SOUND = -8

OPENING = 0
MOST_LINES = 12

RANGES = {
    "nodes": (1, 8),
    "node": (1, 8),
    "line": (1, 12),
    "amount": (0, 1000000000),
    "rate": (-1000000, 1000000),
    "fee": (0, 1000000000000),
}

ARGUMENTS = {
    0: ("nodes",),
    1: ("node", "node"),
    2: ("node", "amount"),
    3: ("node", "amount"),
    4: ("line", "amount", "amount"),
    5: ("node", "rate"),
    6: ("line", "fee"),
    7: (),
    8: (),
    9: ("node",),
    10: ("node",),
}


def open_house(net, arguments):
    if net.nodes > 0:
        return [OPENED_ALREADY]
    net.begin(arguments[0])
    return [0]


def add_line(net, arguments):
    origin = arguments[0]
    to = arguments[1]
    if max(origin, to) > net.nodes:
        return [NO_SUCH_NODE]
    if origin == to:
        return [NOT_FITTING]
    if len(net.lines) == MOST_LINES:
        return [TOO_MANY_LINES]
    net.lines.append(Line(origin, to))
    return [0, len(net.lines)]


def set_of_node(net, kept, arguments):
    node = arguments[0]
    if node > net.nodes:
        return [NO_SUCH_NODE]
    kept[node] = arguments[1]
    return [0]


def set_made(net, arguments):
    return set_of_node(net, net.made, arguments)


def set_used(net, arguments):
    return set_of_node(net, net.used, arguments)


def set_rate(net, arguments):
    return set_of_node(net, net.rates, arguments)


def set_flow(net, arguments):
    number = arguments[0]
    sent = arguments[1]
    comes = arguments[2]
    if number > len(net.lines):
        return [NO_SUCH_LINE]
    if comes > sent:
        return [NOT_FITTING]
    line = net.lines[number - 1]
    line.sent = sent
    line.comes = comes
    return [0]


def set_fee(net, arguments):
    number = arguments[0]
    if number > len(net.lines):
        return [NO_SUCH_LINE]
    line = net.lines[number - 1]
    line.fee = arguments[1]
    return [0]


def ask_excesses(net, arguments):
    return [0] + [excess(net, node) for node in net.made]


def ask_ringless(net, arguments):
    return [0, 0 if has_ring(net) else 1]


# 0 stands for no refusal.
def refusal_of_node(net, node):
    if node > net.nodes:
        return NO_SUCH_NODE
    if not is_sound(net):
        return NOT_SOUND
    return 0


# fractions has one for each node.
def told(net, fractions):
    answer = [0]
    for node in net.made:
        answer.extend(fractions[node])
    return answer


def ask_mix(net, arguments):
    node = arguments[0]
    refusal = refusal_of_node(net, node)
    if refusal < 0:
        return [refusal]
    return told(net, shares(net)[node])


def ask_ends(net, arguments):
    node = arguments[0]
    refusal = refusal_of_node(net, node)
    if refusal < 0:
        return [refusal]
    return told(net, ends(net)[node])


CALLS = {
    0: open_house,
    1: add_line,
    2: set_made,
    3: set_used,
    4: set_flow,
    5: set_rate,
    6: set_fee,
    7: ask_excesses,
    8: ask_ringless,
    9: ask_mix,
    10: ask_ends,
}


def within_ranges(place, arguments):
    for kind, value in zip(ARGUMENTS[place], arguments):
        bounds = RANGES[kind]
        if value < bounds[0] or value > bounds[1]:
            return False
    return True


def answer_call(net, place, arguments):
    if not within_ranges(place, arguments):
        return [OUT_OF_RANGE]
    if place != OPENING and net.nodes == 0:
        return [NOT_OPENED]
    call = CALLS[place]
    return call(net, arguments)


def answers(calls):
    net = Net()
    given = []
    start = 0
    while start < len(calls):
        place = calls[start]
        end = start + 1 + len(ARGUMENTS[place])
        answer = answer_call(net, place, calls[start + 1:end])
        given.append(len(answer))
        given.extend(answer)
        start = end
    return given
