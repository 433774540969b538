"""Tables: the firm rank, may_0 and may_1 of each node."""

from everyohm.checks import require
from everyohm.floods import flooded
from everyohm.kinds import is_known
from everyohm.ranks import ranks_of
from everyohm.statekinds import is_positions, require_view


def firm(net, positions):
    """Return the firm rank of each node."""
    require(is_positions(net, positions), "positions")
    return firm_ranks(net, positions)


def firm_ranks(net, positions):
    """Return the firm rank of each node, for positions that are known to be such."""
    return firm_flood(net, positions)[0]


def firm_flood(net, positions):
    """Return the flood over closed switches."""
    closed = [switch for switch, position in enumerate(positions) if position == 1]
    ranks = ranks_of(net)
    return flooded(net, closed, ranks, (0,) * len(ranks))


def may(net, positions, held, value):
    """Return may_0 of each node if value is 0, and may_1 if it is 1."""
    require_view(net, positions, held)
    require(is_known(value), "value")
    return may_flood(net, positions, held, value, firm_ranks(net, positions))[0]


def may_flood(net, positions, held, value, floors):
    """Return the flood over likely switches from nodes that are held value or 2."""
    likely = [switch for switch, position in enumerate(positions) if position != 0]
    starts = [rank if one in (value, 2) else 0 for rank, one in zip(ranks_of(net), held)]
    return flooded(net, likely, starts, floors)
