"""What papers of tables show."""

from everyohm.firmpapers import firm_judged
from everyohm.maypapers import may_judged
from everyohm.responses import answers
from everyohm.statekinds import require_view


def judge_tables(net, positions, held, paper):
    """Return what tables show at each node, above the response; None if they are not taken."""
    require_view(net, positions, held)
    return tables_judged(net, positions, held, paper)


def tables_judged(net, positions, held, paper):
    """Return what judge_tables returns, for positions and held values that are known to be such."""
    if not isinstance(paper, tuple) or len(paper) != 5:
        return None
    ranks = firm_judged(net, positions, paper[:3])
    if ranks is None:
        return None
    lows = may_judged(net, positions, held, 0, ranks, paper[3])
    highs = may_judged(net, positions, held, 1, ranks, paper[4])
    if lows is None or highs is None:
        return None
    return held[:len(net[0])] + answers(lows, highs)
