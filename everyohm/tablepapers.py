"""Papers that show a response: tables of ranks for all tanks."""

from everyohm.firmpapers import firm_paper_of
from everyohm.maypapers import may_paper_of
from everyohm.statekinds import require_view
from everyohm.tables import firm_ranks


def table_paper(net, positions, held):
    """Return the ranks, parents and steps of a firm paper, then may_0 and may_1 of the tanks."""
    require_view(net, positions, held)
    return tables_for(net, positions, held)


def tables_for(net, positions, held):
    """Return what table_paper returns, for positions and held values that are known to be such."""
    floors = firm_ranks(net, positions)
    lows = may_paper_of(net, positions, held, 0, floors)
    highs = may_paper_of(net, positions, held, 1, floors)
    return firm_paper_of(net, positions) + (lows, highs)
