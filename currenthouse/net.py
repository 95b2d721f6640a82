"""The net that a house keeps; its balance, its rings and its ways."""


class Line:
    def __init__(self, origin, to):
        self.origin = origin
        self.to = to
        self.sent = 0
        self.comes = 0
        self.fee = 0


# Nodes are keys from 1 on; line number k is lines[k - 1]. Without nodes the house isn't open yet.
class Net:
    def __init__(self):
        self.nodes = 0
        self.made = {}
        self.used = {}
        self.rates = {}
        self.lines = []

    def begin(self, nodes):
        self.nodes = nodes
        for node in range(1, nodes + 1):
            self.made[node] = 0
            self.used[node] = 0
            self.rates[node] = 0

    def line(self, number):
        return self.lines[number - 1]


def through(net, node):
    return net.made[node] + sum([line.comes for line in net.lines if line.to == node])


def excess(net, node):
    sent = sum([line.sent for line in net.lines if line.origin == node])
    return through(net, node) - net.used[node] - sent


def is_balanced(net):
    return all([excess(net, node) == 0 for node in net.made])


def must_wait(net, node, placed):
    for line in net.lines:
        if line.to == node and line.sent > 0 and line.origin not in placed:
            return True
    return False


# The nodes, each behind all those that send to it; nodes on a ring or behind one never get a place.
def flow_order(net):
    placed = []
    # Each turn places at least one node, if any can be placed at all, so there are turns enough.
    for turn in range(net.nodes):
        for node in net.made:
            if node not in placed and not must_wait(net, node, placed):
                placed.append(node)
    return placed


def has_ring(net):
    return len(flow_order(net)) < net.nodes


def is_sound(net):
    return is_balanced(net) and not has_ring(net)


# The net must be without a ring: then all ways to a node are counted before those over it are.
def ways(net, origin, to):
    counts = {}
    for node in net.made:
        counts[node] = 1 if node == origin else 0
    for node in flow_order(net):
        for line in net.lines:
            if line.origin == node and line.comes > 0:
                counts[line.to] = counts[line.to] + counts[node]
    return counts[to]
