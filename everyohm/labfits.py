"""Whether labs fit states."""

from everyohm.checks import require
from everyohm.labstarts import is_start
from everyohm.statekinds import is_state
from everyohm.worldfits import fault_of, is_slack


def lab_fits(lab, state, slack):
    """Return whether a lab fits a state of its net with the slack."""
    net = lab.net()
    require(is_state(net, state), "state")
    require(is_slack(slack), "slack")
    base, closed, rooms, _, _ = lab.start()
    return do_fit(net, closed, (base, lab.flows(), rooms, lab.volts()), state, slack)


def start_fits(net, start, state, slack):
    """Return whether start makes a lab, and this lab fits the state with the slack."""
    require(is_state(net, state), "state")
    require(is_slack(slack), "slack")
    return is_fitting_start(net, start, state, slack)


def is_fitting_start(net, start, state, slack):
    """Return what start_fits returns, for a state and a slack that are known to be such."""
    if not is_start(net, start):
        return False
    base, closed, rooms, volts, flows = start
    return do_fit(net, closed, (base, flows, rooms, volts), state, slack)


def do_fit(net, closed, world, state, slack):
    """Return whether the world of a lab, with its volts as charges, fits the state."""
    positions, held = state
    if fault_of(net, positions, held, world, slack) is not None:
        return False
    return all(position != 1 or flow == whole for position, flow, whole in zip(positions, world[1], closed))
