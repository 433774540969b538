"""Papers that show how great firm ranks are."""

from everyohm.checks import require
from everyohm.kinds import is_integer, is_number
from everyohm.netnodes import is_switch_of, other_end
from everyohm.ranks import RANK_OF_FEEDS, rank_of_strength
from everyohm.statekinds import is_positions
from everyohm.tables import firm_flood


def firm_paper(net, positions):
    """Return a paper that shows the firm ranks of the tanks."""
    require(is_positions(net, positions), "positions")
    return firm_paper_of(net, positions)


def firm_paper_of(net, positions):
    """Return such a paper for what are known to be positions."""
    ranks, parents, steps = firm_flood(net, positions)
    feeds = len(net[0])
    return (ranks[feeds:], parents[feeds:], steps[feeds:])


def judge_firm(net, positions, paper):
    """Return the ranks that a firm paper shows, or None if it is not taken."""
    require(is_positions(net, positions), "positions")
    return firm_judged(net, positions, paper)


def firm_judged(net, positions, paper):
    """Return what judge_firm returns, for what are known to be positions."""
    if not is_firm_paper(net, paper):
        return None
    fits = all(is_founded(net, positions, paper, place) for place in range(len(net[1])))
    return paper[0] if fits else None


def is_firm_paper(net, thing):
    """Return whether thing is a triple of ranks, parents and steps for the tanks."""
    if not isinstance(thing, tuple) or len(thing) != 3:
        return False
    ranks, parents, steps = thing
    if not is_column(net, ranks) or not is_column(net, steps):
        return False
    return has_for_tanks(net, parents) and all(is_integer(parent) for parent in parents)


def is_column(net, thing):
    """Return whether thing is a tuple with a number for each tank."""
    return has_for_tanks(net, thing) and all(is_number(number) for number in thing)


def has_for_tanks(net, thing):
    """Return whether thing is a tuple with as many parts as there are tanks."""
    return isinstance(thing, tuple) and len(thing) == len(net[1])


def is_founded(net, positions, paper, place):
    """Return whether a tank's rank comes from its size, or over its parent."""
    ranks, parents, _ = paper
    parent = parents[place]
    if parent == -1:
        return ranks[place] <= net[1][place][1]
    if not is_switch_of(net, parent) or positions[parent] != 1:
        return False
    most = min(rank_of_strength(net[2][parent][1]), rank_across(net, paper, place))
    return ranks[place] <= most


def rank_across(net, paper, place):
    """Return the rank at the other end of a tank's parent, -1 if nothing comes from there."""
    ranks, parents, steps = paper
    feeds = len(net[0])
    other = other_end(net, parents[place], feeds + place)
    if other < 0:
        return -1
    if other < feeds:
        return RANK_OF_FEEDS
    return ranks[other - feeds] if steps[other - feeds] < steps[place] else -1
