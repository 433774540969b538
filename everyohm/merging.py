"""Heaps: a second way to the response, where all is known."""

from everyohm.bookkinds import GREATEST_STRENGTH
from everyohm.checks import require
from everyohm.ranks import ranks_of
from everyohm.statekinds import is_held, is_positions
from everyohm.values import joined_of


def merged(net, positions, held):
    """Return the value of each node's heap, for known positions and held values."""
    require(is_positions(net, positions) and 2 not in positions, "positions")
    require(is_held(net, held) and 2 not in held, "held")
    return merged_values(net, positions, held)


def merged_values(net, positions, held):
    """Return the value of each node's heap, for arguments that are known to fit."""
    # A heap is named by a node; a feed is a heap that is fixed from the start.
    heaps = list(range(len(held)))
    fixed = {feed: held[feed] for feed in range(len(net[0]))}
    for strength in range(GREATEST_STRENGTH, 0, -1):
        joints = [
            switch[3:] for switch, position in zip(net[2], positions)
            if position == 1 and switch[1] == strength
        ]
        heaps = with_joints(heaps, fixed, joints)
        fixed = with_drives(heaps, fixed, joints)
    return tuple(heap_value(net, held, heaps, fixed, heap) for heap in heaps)


def with_joints(heaps, fixed, joints):
    """Return the heaps behind the first step: those that are not fixed become one."""
    for left, right in joints:
        one, other = heaps[left], heaps[right]
        if one not in fixed and other not in fixed:
            heaps = [one if heap == other else heap for heap in heaps]
    return heaps


def with_drives(heaps, fixed, joints):
    """Return the fixed heaps behind the second step, with their values."""
    drives = {}
    for left, right in joints:
        for driver, driven in ((heaps[left], heaps[right]), (heaps[right], heaps[left])):
            if driver in fixed and driven not in fixed:
                drives.setdefault(driven, []).append(fixed[driver])
    values = {heap: fixed[heap] for heap in fixed}
    for heap in drives:
        values[heap] = joined_of(drives[heap])
    return values


def heap_value(net, held, heaps, fixed, heap):
    """Return the value of a heap: what it is fixed at, or what its greatest tanks hold."""
    if heap in fixed:
        return fixed[heap]
    ranks = ranks_of(net)
    tanks = [node for node, other in enumerate(heaps) if other == heap]
    greatest = max(ranks[tank] for tank in tanks)
    return joined_of([held[tank] for tank in tanks if ranks[tank] == greatest])
