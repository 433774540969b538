"""Runs: a lab's start, and the moves behind it."""

from everyohm.checks import require
from everyohm.labs import Lab
from everyohm.labstarts import is_start


def run_of(net, run):
    """Return the lab of a run behind all its moves."""
    require(is_run(net, run), "run")
    start, moves = run
    lab = lab_from(net, start)
    lab.go_all(moves)
    return lab


def is_run(net, thing):
    """Return whether thing is a pair of a lab's start and a tuple of what may be moves."""
    if not isinstance(thing, tuple) or len(thing) != 2:
        return False
    return is_start(net, thing[0]) and isinstance(thing[1], tuple)


def lab_from(net, start):
    """Return the lab that a start makes."""
    base, closed, rooms, volts, flows = start
    return Lab(net, base, closed, rooms, volts, flows)
