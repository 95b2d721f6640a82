"""The calls on one house, from one list of numbers to one list of numbers."""

from currenthouse.fees import fees_of_sending, fees_of_use
from currenthouse.mixture import ends, shares
from currenthouse.net import Line, Net, excess, has_ring, is_sound, ways
from currenthouse.parts import loss, made_and_used, parts_of_line
from currenthouse.ratio import times
from currenthouse.weights import unit_weight, weight_of_losses, weight_of_making, weight_of_use

OUT_OF_RANGE = -1
NOT_OPENED = -2
OPENED_ALREADY = -3
TOO_MANY_LINES = -4
NO_SUCH_NODE = -5
NO_SUCH_LINE = -6
NOT_FITTING = -7
NOT_SOUND = -8

OPENING = 0
MOST_LINES = 12
ASKED_OF_SOUND_NETS = (9, 10, 11, 12, 13, 14, 15, 16, 17, 18)

RANGES = {
    "nodes": (1, 8),
    "node": (1, 8),
    "line": (1, 12),
    "amount": (0, 1000000000),
    "rate": (-1000000, 1000000),
    "fee": (0, 1000000000000),
}

ARGUMENTS = {
    0: ("nodes",),
    1: ("node", "node"),
    2: ("node", "amount"),
    3: ("node", "amount"),
    4: ("line", "amount", "amount"),
    5: ("node", "rate"),
    6: ("line", "fee"),
    7: (),
    8: (),
    9: ("node",),
    10: ("node",),
    11: ("node", "node"),
    12: ("line",),
    13: ("node",),
    14: ("node",),
    15: (),
    16: (),
    17: (),
    18: ("node", "node"),
    19: ("line",),
    20: (),
}


def open_house(net, arguments):
    if net.nodes > 0:
        return [OPENED_ALREADY]
    net.begin(arguments[0])
    return [0]


def add_line(net, arguments):
    origin = arguments[0]
    to = arguments[1]
    if origin == to:
        return [NOT_FITTING]
    if len(net.lines) == MOST_LINES:
        return [TOO_MANY_LINES]
    net.lines.append(Line(origin, to))
    return [0, len(net.lines)]


def set_made(net, arguments):
    net.made[arguments[0]] = arguments[1]
    return [0]


def set_used(net, arguments):
    net.used[arguments[0]] = arguments[1]
    return [0]


def set_flow(net, arguments):
    sent = arguments[1]
    comes = arguments[2]
    if comes > sent:
        return [NOT_FITTING]
    line = net.line(arguments[0])
    line.sent = sent
    line.comes = comes
    return [0]


def set_rate(net, arguments):
    net.rates[arguments[0]] = arguments[1]
    return [0]


def set_fee(net, arguments):
    line = net.line(arguments[0])
    line.fee = arguments[1]
    return [0]


def ask_excesses(net, arguments):
    return [0] + [excess(net, node) for node in net.made]


def ask_ringless(net, arguments):
    return [0, 0 if has_ring(net) else 1]


# fractions has one for each node.
def told(net, fractions):
    answer = [0]
    for node in net.made:
        answer.extend(fractions[node])
    return answer


def ask_mix(net, arguments):
    return told(net, shares(net)[arguments[0]])


def ask_ends(net, arguments):
    return told(net, ends(net)[arguments[0]])


def ask_from(net, arguments):
    return [0] + list(made_and_used(net, arguments[0], arguments[1]))


def ask_over(net, arguments):
    return told(net, parts_of_line(net.line(arguments[0]), shares(net)))


def ask_lost(net, arguments):
    return [0] + list(loss(net, arguments[0]))


def ask_weight(net, arguments):
    node = arguments[0]
    weight = unit_weight(net, shares(net)[node])
    return [0] + list(weight) + list(times(net.used[node], weight))


def ask_weights(net, arguments):
    found = shares(net)
    return [0] + list(weight_of_use(net, found)) + list(weight_of_losses(net, found)) + [weight_of_making(net)]


def ask_fees(net, arguments):
    return [0] + fees_of_sending(net)


def ask_fees_of_use(net, arguments):
    return [0] + fees_of_use(net)


def ask_ways(net, arguments):
    return [0, ways(net, arguments[0], arguments[1])]


def ask_line(net, arguments):
    line = net.line(arguments[0])
    return [0, line.origin, line.to, line.sent, line.comes, line.fee]


def ask_state(net, arguments):
    answer = [0, net.nodes, len(net.lines)]
    for node in net.made:
        answer.extend([net.made[node], net.used[node], net.rates[node]])
    return answer


CALLS = {
    0: open_house,
    1: add_line,
    2: set_made,
    3: set_used,
    4: set_flow,
    5: set_rate,
    6: set_fee,
    7: ask_excesses,
    8: ask_ringless,
    9: ask_mix,
    10: ask_ends,
    11: ask_from,
    12: ask_over,
    13: ask_lost,
    14: ask_weight,
    15: ask_weights,
    16: ask_fees,
    17: ask_fees_of_use,
    18: ask_ways,
    19: ask_line,
    20: ask_state,
}


def within_ranges(place, arguments):
    for kind, value in zip(ARGUMENTS[place], arguments):
        bounds = RANGES[kind]
        if value < bounds[0] or value > bounds[1]:
            return False
    return True


# The refusals that calls have in common, in the order in which they're looked at; 0 stands for none.
# No call looks at one of its own before these.
def common_refusal(net, place, arguments):
    if not within_ranges(place, arguments):
        return OUT_OF_RANGE
    if place != OPENING and net.nodes == 0:
        return NOT_OPENED
    for kind, value in zip(ARGUMENTS[place], arguments):
        if kind == "node" and value > net.nodes:
            return NO_SUCH_NODE
        if kind == "line" and value > len(net.lines):
            return NO_SUCH_LINE
    if place in ASKED_OF_SOUND_NETS and not is_sound(net):
        return NOT_SOUND
    return 0


def answer_call(net, place, arguments):
    refusal = common_refusal(net, place, arguments)
    if refusal < 0:
        return [refusal]
    call = CALLS[place]
    return call(net, arguments)


def answers(calls):
    net = Net()
    given = []
    start = 0
    while start < len(calls):
        place = calls[start]
        end = start + 1 + len(ARGUMENTS[place])
        answer = answer_call(net, place, calls[start + 1:end])
        given.append(len(answer))
        given.extend(answer)
        start = end
    return given
