"""Whether volts are those of a world: their sums are checked, not solved."""

from everyohm.checks import require
from everyohm.parts import parts_by
from everyohm.quotients import over_common
from everyohm.volts import mean_charge, require_numbers, whole_flows_at
from everyohm.worldkinds import are_charges


def are_volts(net, flows, rooms, charges, volts):
    """Return whether volts are the volts of the world with these numbers."""
    require_numbers(net, flows, rooms, charges)
    require(are_charges(net, volts), "volts")
    return do_balance(net, flows, rooms, charges, volts)


def do_balance(net, flows, rooms, charges, volts):
    """Return what are_volts returns, for arguments that are known to fit."""
    feeds = len(net[0])
    if volts[:feeds] != charges[:feeds]:
        return False
    tops, _ = over_common(volts)
    for tanks, touching in parts_by(net, flows):
        if touching == ():
            mean = mean_charge(net, rooms, charges, tanks)
            fits = all(volts[tank] == mean for tank in tanks)
        else:
            fits = all(is_balanced(net, flows, tops, tank) for tank in tanks)
        if not fits:
            return False
    return True


def is_balanced(net, flows, tops, tank):
    """Return whether as much flows into a tank as out of it."""
    return sum(flow * (tops[other] - tops[tank]) for other, flow in whole_flows_at(net, flows, tank)) == 0
