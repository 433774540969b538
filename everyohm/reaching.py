"""How far a turn can reach: the groups in which something may move."""

from everyohm.groups import groups_of
from everyohm.starts import is_resting
from everyohm.turning import require_turn


def reached(net, state, feeds):
    """Return the groups that new feed values can reach, by least tank."""
    require_turn(net, state, feeds)
    groups = groups_of(net)
    if not is_resting(net, state):
        return groups
    changed = [feed for feed, value in enumerate(feeds) if state[1][feed] != value]
    return groups_from(net, groups, changed)


def groups_from(net, groups, feeds):
    """Return the groups that some feeds reach, straight or through gates."""
    moving = {feed: True for feed in feeds}
    found = []
    waiting = list(groups)
    touched = [group for group in waiting if is_touched(net, group, moving)]
    while touched != []:
        for group in touched:
            found.append(group)
            for tank in group:
                moving[tank] = True
        waiting = [group for group in waiting if group not in touched]
        touched = [group for group in waiting if is_touched(net, group, moving)]
    return tuple(sorted(found))


def is_touched(net, group, moving):
    """Return whether a switch of a group has a moving gate or a moving feed as its other end."""
    for _, _, gate, left, right in net[2]:
        # No tank of this group moves so far, so an end that does is a feed.
        if (left in group or right in group) and (gate in moving or left in moving or right in moving):
            return True
    return False
