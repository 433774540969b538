"""Floods: how great a rank comes to each node over usable switches."""

from everyohm.checks import require
from everyohm.kinds import is_between, is_lot
from everyohm.netnodes import count_of_nodes, is_switch_of
from everyohm.ranks import RANK_OF_FEEDS, rank_of_strength

# No rank is so great, so a node with this floor is on no road.
GREATEST_FLOOR = 12


def flood(net, usable, starts, floors):
    """Return for each node the greatest rank there of the roads that keep above the floors."""
    require(is_lot(usable) and all(is_switch_of(net, switch) for switch in usable), "usable")
    require(are_numbers(net, starts, RANK_OF_FEEDS), "starts")
    require(are_numbers(net, floors, GREATEST_FLOOR), "floors")
    return flooded(net, usable, starts, floors)[0]


def are_numbers(net, thing, most):
    """Return whether thing is a tuple with a number up to most for each node."""
    if not isinstance(thing, tuple) or len(thing) != count_of_nodes(net):
        return False
    return all(is_between(number, 0, most) for number in thing)


def flooded(net, usable, starts, floors):
    """Return the numbers of a flood, and for each node its parent and its step.

    The parent is the switch by which the number came, -1 if none did. The node
    across from it has a number at least as great, and a smaller step.
    """
    ways = ways_over(net, usable)
    numbers = [start if start >= floor else 0 for start, floor in zip(starts, floors)]
    parents = [-1] * len(numbers)
    steps = [0] * len(numbers)
    step = 0
    # Ranks only shrink along a road, so from the greatest down each number is final.
    for rank in range(RANK_OF_FEEDS, 0, -1):
        waiting = [node for node, number in enumerate(numbers) if number == rank]
        while waiting:
            node = waiting.pop()
            steps[node] = step
            step += 1
            for switch, other, width in ways[node]:
                number = min(rank, width)
                if number > numbers[other] and number >= floors[other]:
                    numbers[other] = number
                    parents[other] = switch
                    if number == rank:
                        waiting.append(other)
    return tuple(numbers), tuple(parents), tuple(steps)


def ways_over(net, usable):
    """Return for each node the ways to tanks: the switch, the tank and the switch's rank."""
    feeds = len(net[0])
    ways = [[] for _ in range(count_of_nodes(net))]
    for switch in usable:
        _, strength, _, left, right = net[2][switch]
        width = rank_of_strength(strength)
        if right >= feeds:
            ways[left].append((switch, right, width))
        if left >= feeds:
            ways[right].append((switch, left, width))
    return ways
