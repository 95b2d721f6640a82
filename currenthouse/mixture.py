"""Who made what goes through a node, and where it ends. The nets asked of here are sound."""

from currenthouse.net import flow_order, through
from currenthouse.ratio import divided, plus_times


# For each node, its part of what goes through this one. own is what this node adds itself;
# parts are pairs of what comes over a line and the mixture at the line's other end.
def mixed(net, node, own, parts):
    amount_through = through(net, node)
    mixture = {}
    for other in net.made:
        total = (own if other == node else 0, 1)
        for comes, there in parts:
            total = plus_times(total, comes, there[other])
        mixture[other] = divided(total, amount_through)
    return mixture


# In what is given back, [i][a] is a's share of node i.
def shares(net):
    found = {}
    for node in flow_order(net):
        # Where nothing comes, the line's first node may not have been worked out (nothing need be sent).
        parts = [(line.comes, found[line.origin]) for line in net.lines if line.to == node and line.comes > 0]
        found[node] = mixed(net, node, net.made[node], parts)
    return found


# In what is given back, [i][b] is i's end in b.
def ends(net):
    found = {}
    for node in reversed(flow_order(net)):
        parts = [(line.comes, found[line.to]) for line in net.lines if line.origin == node and line.comes > 0]
        found[node] = mixed(net, node, net.used[node], parts)
    return found
