"""How the lines' fees are parted, to the unit. The nets asked of here are sound."""

from currenthouse.mixture import ends, shares
from currenthouse.parts import parts_of_line, parts_of_what_comes
from currenthouse.ratio import in_whole_numbers


# parts are fractions in the order of the nodes, and so is what each one gets.
def parted(fee, parts):
    whole = in_whole_numbers(parts)
    together = sum(whole)
    if together == 0:
        return [0 for part in whole]
    gets = [fee * part // together for part in whole]
    remainders = [fee * part % together for part in whole]
    lacking = fee - sum(gets)
    # Where remainders are the same, sorted leaves the earlier node first.
    by_remainder = sorted(range(len(whole)), key=lambda k: -remainders[k])
    for k in by_remainder[:lacking]:
        gets[k] = gets[k] + 1
    return gets


# parts_of_lines has, for each line, a dict of the nodes' parts.
def gathered(net, parts_of_lines):
    together = [0 for node in net.made]
    for line, parts in zip(net.lines, parts_of_lines):
        gets = parted(line.fee, [parts[node] for node in net.made])
        together = [before + got for before, got in zip(together, gets)]
    return together


def fees_of_sending(net):
    found = shares(net)
    return gathered(net, [parts_of_line(line, found) for line in net.lines])


def fees_of_use(net):
    found = ends(net)
    return gathered(net, [parts_of_what_comes(line, found) for line in net.lines])
