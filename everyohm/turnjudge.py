"""What papers of turns show."""

from everyohm.starts import readings_by
from everyohm.statekinds import is_state
from everyohm.tablejudge import tables_judged
from everyohm.turning import require_turn
from everyohm.values import is_above_all


def judge_turn(net, state, feeds, paper):
    """Return the last state of a paper and its number of steps, or None if it is not taken."""
    require_turn(net, state, feeds)
    return turn_judged(net, state, feeds, paper)


def turn_judged(net, state, feeds, paper):
    """Return what judge_turn returns, for a state and feed values that are known to fit."""
    if not isinstance(paper, tuple) or len(paper) == 0:
        return None
    if not all(is_step(net, feeds, pair) for pair in paper) or not is_begun_above(net, state, paper[0]):
        return None
    for (before, _), pair in zip(paper, paper[1:]):
        if not is_step_behind(net, before, pair):
            return None
    return paper[-1][0], len(paper) - 1


def is_step(net, feeds, thing):
    """Return whether thing is a pair of a state with these feed values and anything else."""
    if not isinstance(thing, tuple) or len(thing) != 2 or not is_state(net, thing[0]):
        return False
    return thing[0][1][:len(feeds)] == feeds


def is_begun_above(net, state, pair):
    """Return whether a first pair is above the state, its own readings and its responses."""
    (positions, held), tables = pair
    if not is_above_all(positions, state[0]) or not is_above_all(positions, readings_by(net, held)):
        return False
    feeds = len(net[0])
    return is_above_all(held[feeds:], state[1][feeds:]) and covers(net, held, positions, held, tables)


def is_step_behind(net, before, pair):
    """Return whether a further pair is above the whole step from the state before it."""
    (positions, held), tables = pair
    return positions == readings_by(net, before[1]) and covers(net, held, positions, before[1], tables)


def covers(net, new, positions, held, tables):
    """Return whether new values are, at tanks, above what tables show for positions and held values."""
    told = tables_judged(net, positions, held, tables)
    feeds = len(net[0])
    return told is not None and is_above_all(new[feeds:], told[feeds:])
