"""Papers that show how small may_0 and may_1 are."""

from everyohm.checks import require
from everyohm.firmpapers import is_column
from everyohm.kinds import is_known
from everyohm.ranks import RANK_OF_FEEDS, rank_of_strength
from everyohm.statekinds import require_view
from everyohm.tables import firm_ranks, may_flood


def may_paper(net, positions, held, value):
    """Return may_0 of the tanks if value is 0, and may_1 if it is 1."""
    require_view(net, positions, held)
    require(is_known(value), "value")
    return may_paper_of(net, positions, held, value, firm_ranks(net, positions))


def may_paper_of(net, positions, held, value, floors):
    """Return the tanks' part of the flood above the floors."""
    return may_flood(net, positions, held, value, floors)[0][len(net[0]):]


def judge_may(net, positions, held, value, ranks, paper):
    """Return the paper if no tank may have more than it says, otherwise None."""
    require_view(net, positions, held)
    require(is_known(value), "value")
    require(is_column(net, ranks), "ranks")
    return may_judged(net, positions, held, value, ranks, paper)


def may_judged(net, positions, held, value, ranks, paper):
    """Return what judge_may returns, for arguments that are known to fit."""
    if not is_column(net, paper) or not covers_sizes(net, held, value, ranks, paper):
        return None
    return paper if covers_ways(net, positions, held, value, ranks, paper) else None


def covers_sizes(net, held, value, ranks, paper):
    """Return whether each tank that starts a clear road has at least its size."""
    for (_, size), one, rank, number in zip(net[1], held[len(net[0]):], ranks, paper):
        if one in (value, 2) and size >= rank and number < size:
            return False
    return True


def covers_ways(net, positions, held, value, ranks, paper):
    """Return whether each tank has at least what clear roads bring over its switches."""
    feeds = len(net[0])
    numbers = tuple(RANK_OF_FEEDS if one in (value, 2) else 0 for one in held[:feeds]) + paper
    for (_, strength, _, left, right), position in zip(net[2], positions):
        for one, other in ((left, right), (right, left)):
            reach = min(rank_of_strength(strength), numbers[other])
            if position != 0 and one >= feeds and ranks[one - feeds] <= reach and numbers[one] < reach:
                return False
    return True
