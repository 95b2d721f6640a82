"""What a unit weighs, and what all that is used, lost and made does. found is what shares gives for the net."""

from currenthouse.ratio import sum_of_products


# mixture tells each node's share of the node in which the unit is weighed.
def unit_weight(net, mixture):
    return sum_of_products([(net.rates[node], share) for node, share in mixture.items()])


def weight_of_use(net, found):
    return sum_of_products([(net.used[node], unit_weight(net, found[node])) for node in net.made])


def weight_of_losses(net, found):
    return sum_of_products([(line.sent - line.comes, unit_weight(net, found[line.origin])) for line in net.lines])


def weight_of_making(net):
    return sum([net.rates[node] * net.made[node] for node in net.made])
