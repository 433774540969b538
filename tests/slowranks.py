"""Ranks, responses and volts straight from the definitions, slow and plain."""

import itertools
from fractions import Fraction

RANKS_OF_FEEDS = 11


def nodes_of(net):
    return range(len(net[0]) + len(net[1]))


def tanks_of(net):
    return range(len(net[0]), len(net[0]) + len(net[1]))


def own_ranks(net):
    return [RANKS_OF_FEEDS] * len(net[0]) + [size for _, size in net[1]]


def ranks_reached(net, usable, starts, floors):
    """Return all pairs (node, rank) to which a road comes, whatever its nodes."""
    found = {(node, start) for node, start in enumerate(starts) if start > 0 and start >= floors[node]}
    new = set(found)
    while new:
        further = set()
        for node, rank in new:
            for place in usable:
                _, strength, _, left, right = net[2][place]
                if node in (left, right):
                    other = left + right - node
                    pair = (other, min(rank, 4 + strength))
                    if other >= len(net[0]) and pair[1] >= floors[other]:
                        further.add(pair)
        new = further - found
        found |= new
    return found


def slow_flood(net, usable, starts, floors):
    found = ranks_reached(net, usable, starts, floors)
    return tuple(max([rank for other, rank in found if other == node], default=0) for node in nodes_of(net))


def roads_of(net, usable):
    """Return all roads over usable switches on which no node comes twice, with nodes and ranks."""
    roads = [(node, (), (node,), (rank,)) for node, rank in enumerate(own_ranks(net))]
    done = []
    while roads:
        root, switches, nodes, ranks = roads.pop()
        done.append((root, switches, nodes, ranks))
        for place in usable:
            _, strength, _, left, right = net[2][place]
            if nodes[-1] in (left, right):
                other = left + right - nodes[-1]
                if other >= len(net[0]) and other not in nodes:
                    roads.append((root, switches + (place,), nodes + (other,), ranks + (min(ranks[-1], 4 + strength),)))
    return done


def slow_firm(net, positions):
    closed = [place for place, position in enumerate(positions) if position == 1]
    roads = roads_of(net, closed)
    return tuple(max(ranks[-1] for _, _, nodes, ranks in roads if nodes[-1] == node) for node in nodes_of(net))


def slow_may(net, positions, held, value):
    firm = slow_firm(net, positions)
    likely = [place for place, position in enumerate(positions) if position != 0]
    result = [0] * len(held)
    for root, _, nodes, ranks in roads_of(net, likely):
        if held[root] in (value, 2) and all(rank >= firm[node] for node, rank in zip(nodes, ranks)):
            result[nodes[-1]] = max(result[nodes[-1]], ranks[-1])
    return tuple(result)


def slow_response(net, positions, held):
    zeros, ones = slow_may(net, positions, held, 0), slow_may(net, positions, held, 1)
    tanks = tuple(1 if zeros[tank] == 0 else 0 if ones[tank] == 0 else 2 for tank in tanks_of(net))
    return held[:len(net[0])] + tanks


def all_known(values):
    """Return all tuples in which each 2 is replaced by 0 or 1, in counting order."""
    return list(itertools.product(*[(0, 1) if value == 2 else (value,) for value in values]))


def slow_lots(net, pairs):
    """Return the lots of tanks that pairs of ends join, by joining sets as long as one joins two."""
    feeds = len(net[0])
    sets = [{tank} for tank in tanks_of(net)]
    for left, right in pairs:
        if left >= feeds and right >= feeds:
            one = next(part for part in sets if left in part)
            other = next(part for part in sets if right in part)
            if one is not other:
                one |= other
                sets.remove(other)
    return tuple(sorted(tuple(sorted(part)) for part in sets))


def slow_parts(net, flows):
    """Return the pairs (tanks, feeds) of the parts."""
    flowing = [switch[3:] for switch, flow in zip(net[2], flows) if flow[0] != 0]
    parts = []
    for part in slow_lots(net, flowing):
        touching = {a for pair in flowing for a, b in (pair, pair[::-1]) if a < len(net[0]) and b in part}
        parts.append((part, tuple(sorted(touching))))
    return tuple(parts)


def slow_volts(net, flows, rooms, charges):
    """Return the volts as fractions, by elimination with pivots."""
    feeds = len(net[0])
    volts = [Fraction(*charge) for charge in charges]
    for tanks, touching in slow_parts(net, flows):
        if not touching:
            whole = sum(Fraction(*rooms[tank - feeds]) for tank in tanks)
            mean = sum(Fraction(*rooms[tank - feeds]) * Fraction(*charges[tank]) for tank in tanks) / whole
            solved = [mean] * len(tanks)
        else:
            solved = solve([volt_row(net, flows, charges, tanks, tank) for tank in tanks])
        for tank, volt in zip(tanks, solved):
            volts[tank] = volt
    return volts


def volt_row(net, flows, charges, tanks, tank):
    row = [Fraction(0)] * (len(tanks) + 1)
    for (_, _, _, left, right), flow in zip(net[2], flows):
        if tank in (left, right):
            other = left + right - tank
            row[tanks.index(tank)] += Fraction(*flow)
            if other in tanks:
                row[tanks.index(other)] -= Fraction(*flow)
            elif flow[0]:
                row[-1] += Fraction(*flow) * Fraction(*charges[other])
    return row


def solve(rows):
    rows = [list(row) for row in rows]
    for at in range(len(rows)):
        pivot = next(k for k in range(at, len(rows)) if rows[k][at])
        rows[at], rows[pivot] = rows[pivot], rows[at]
        rows[at] = [one / rows[at][at] for one in rows[at]]
        for k in range(len(rows)):
            if k != at:
                rows[k] = [one - rows[k][at] * other for one, other in zip(rows[k], rows[at])]
    return [row[-1] for row in rows]


def pair_of(fraction):
    return (fraction.numerator, fraction.denominator)
