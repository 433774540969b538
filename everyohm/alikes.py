"""Whether two nets are alike: what they show behind all sequences of feed values."""

from everyohm.checks import require
from everyohm.errors import NotFlat, TooMany
from everyohm.netkinds import is_net
from everyohm.netnodes import number_of
from everyohm.searching import is_limit
from everyohm.starts import unknown_start
from everyohm.trails import Trail
from everyohm.turning import state_after


def alike(net, other, names, wide, limit):
    """Return the first sequence that tells two nets apart, or all pairs of states that come."""
    require_nets(net, other, names, wide)
    require(is_limit(limit), "limit")
    require_same_feeds(net, other)
    return compared(net, other, names, all_feeds(net, wide), limit)


def require_nets(net, other, names, wide):
    """Raise NotUsable unless two nets can be compared at these names."""
    require(is_net(other), "other")
    require(are_names_of_both(net, other, names), "names")
    require(isinstance(wide, bool), "wide")


def require_same_feeds(net, other):
    """Raise NotFlat if two nets have different feeds."""
    if net[0] != other[0]:
        raise NotFlat("feeds", "")


def are_names_of_both(net, other, thing):
    """Return whether thing is a tuple of names of tanks of both nets, none twice."""
    if not isinstance(thing, tuple):
        return False
    tanks = [name for name, _ in net[1]]
    others = [name for name, _ in other[1]]
    return all(name in tanks and name in others for name in thing) and len(set(thing)) == len(thing)


def all_feeds(net, wide):
    """Return all feed values, in counting order, with 2 as well if wide."""
    values = (0, 1, 2) if wide else (0, 1)
    rows = [(0, 1)]
    for _ in net[0][2:]:
        rows = [row + (value,) for row in rows for value in values]
    return rows


def compared(net, other, names, rows, limit):
    """Return what alike returns, with rows as feed values."""
    trail = Trail((unknown_start(net), unknown_start(other)))
    made = 0
    at = 0
    while at < len(trail.came):
        for feeds in rows:
            if made == limit:
                raise TooMany(limit)
            made += 1
            pair = pair_after(net, other, trail.came[at], feeds)
            difference = difference_of(net, other, names, pair)
            if difference is not None:
                return ("apart", trail.steps_to(at) + (feeds,)) + difference
            trail.keep(pair, at, feeds)
        at += 1
    return ("alike", tuple(trail.came))


def pair_after(net, other, pair, feeds):
    """Return the new states of both nets behind a turn."""
    state, other_state = pair
    return state_after(net, state, feeds), state_after(other, other_state, feeds)


def difference_of(net, other, names, pair):
    """Return the first name at which two states differ, with both values, or None."""
    (_, held), (_, other_held) = pair
    for name in names:
        one = held[number_of(net, name)]
        another = other_held[number_of(other, name)]
        if one != another:
            return (name, one, another)
    return None
