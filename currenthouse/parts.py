"""Whose what is: what is used, what goes over a line, what is lost. The nets asked of here are sound."""

from currenthouse.mixture import shares
from currenthouse.ratio import sum_of_products, times


def made_and_used(net, maker, user):
    return times(net.used[user], shares(net)[user][maker])


# For each node, its part of an amount that is mixed so.
def parts_of(amount, mixture):
    parts = {}
    for node, fraction in mixture.items():
        parts[node] = times(amount, fraction)
    return parts


# found is what shares gives for the line's net.
def parts_of_line(line, found):
    return parts_of(line.sent, found[line.origin])


# found is what ends gives for the line's net.
def parts_of_what_comes(line, found):
    return parts_of(line.comes, found[line.to])


def loss(net, maker):
    found = shares(net)
    return sum_of_products([(line.sent - line.comes, found[line.origin][maker]) for line in net.lines])
