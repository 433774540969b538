"""Whether pairs of states show that two nets are alike."""

from everyohm.alikes import all_feeds, difference_of, pair_after, require_nets, require_same_feeds
from everyohm.starts import unknown_start
from everyohm.statekinds import is_state


def judge_alike(net, other, names, wide, paper):
    """Return whether the paper has all pairs of states that come, and they agree at the names."""
    require_nets(net, other, names, wide)
    require_same_feeds(net, other)
    if not isinstance(paper, tuple) or not all(is_pair_of_states(net, other, pair) for pair in paper):
        return False
    present = {pair: True for pair in paper}
    if (unknown_start(net), unknown_start(other)) not in present:
        return False
    rows = all_feeds(net, wide)
    for pair in paper:
        if difference_of(net, other, names, pair) is not None:
            return False
        if not all(pair_after(net, other, pair, feeds) in present for feeds in rows):
            return False
    return True


def is_pair_of_states(net, other, thing):
    """Return whether thing is a pair of a state of each net."""
    if not isinstance(thing, tuple) or len(thing) != 2:
        return False
    return is_state(net, thing[0]) and is_state(other, thing[1])
