"""Whether a run shows that a tank is unknown within a turn."""

from everyohm.checks import require
from everyohm.labfits import is_fitting_start
from everyohm.moves import move_fault
from everyohm.netnodes import is_tank_of
from everyohm.quotients import NOUGHT, ONE
from everyohm.runs import is_run, lab_from
from everyohm.turning import require_turn
from everyohm.worldkinds import needed_base


def judge_run(net, state, feeds, tank, paper):
    """Return whether the paper is a run of this one turn in which the tank reads 0 and 1."""
    require_turn(net, state, feeds)
    require(is_tank_of(net, tank), "tank")
    if not is_run(net, paper):
        return False
    start, moves = paper
    if not are_moves_of_a_turn(net, start[0], moves) or not is_fitting_start(net, start, state, NOUGHT):
        return False
    shown = {}
    lab = lab_from(net, start)
    for move in moves:
        lab.go(move)
        if not has_feeds(lab.volts(), feeds):
            return False
        shown[lab.reads(tank)] = True
    return 0 in shown and 1 in shown and start[0] >= needed_base(net, lab.adrift())


def are_moves_of_a_turn(net, base, moves):
    """Return whether all moves can be made, and the first alone is a turn."""
    if any(move_fault(net, base, move) is not None for move in moves):
        return False
    words = [move[0] for move in moves]
    return words[:1] == ["turn"] and "turn" not in words[1:]


def has_feeds(volts, feeds):
    """Return whether each feed that is told 0 or 1 has just this volt."""
    return all(value == 2 or volts[feed] == (NOUGHT, ONE)[value] for feed, value in enumerate(feeds))
