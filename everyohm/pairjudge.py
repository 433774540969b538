"""Whether two worlds show that a response is unknown."""

from everyohm.balances import do_balance
from everyohm.checks import require
from everyohm.netnodes import is_tank_of
from everyohm.quotients import NOUGHT, volt_reads
from everyohm.statekinds import require_view
from everyohm.worldfits import fault_of
from everyohm.worldkinds import are_charges, is_world


def judge_pair(net, positions, held, tank, paper):
    """Return whether the paper has two worlds that fit and read 0 and 1 at the tank."""
    require_view(net, positions, held)
    require(is_tank_of(net, tank), "tank")
    if not isinstance(paper, tuple) or len(paper) != 4:
        return False
    for value, (world, volts) in enumerate((paper[:2], paper[2:])):
        if not does_fit(net, positions, held, world) or not has_volts(net, world, volts):
            return False
        if volt_reads(volts[tank]) != value:
            return False
    return True


def does_fit(net, positions, held, thing):
    """Return whether thing is a world that fits, with nought as slack."""
    return is_world(net, thing) and fault_of(net, positions, held, thing, NOUGHT) is None


def has_volts(net, world, thing):
    """Return whether thing is the volts of a world."""
    _, flows, rooms, charges = world
    return are_charges(net, thing) and do_balance(net, flows, rooms, charges, thing)
