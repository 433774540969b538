"""Papers that show that a response is unknown: two worlds with their volts."""

from everyohm.checks import require
from everyohm.netnodes import is_tank_of
from everyohm.showing import worlds_by_roads
from everyohm.statekinds import require_view
from everyohm.volts import solved_volts
from everyohm.worldkinds import is_base, needed_base


def pair_paper(net, positions, held, tank, base):
    """Return two worlds and their volts that read 0 and 1 at the tank, or None if none can."""
    require_view(net, positions, held)
    require(is_tank_of(net, tank), "tank")
    require(is_base(base) and base >= needed_base(net, 1), "base")
    worlds = worlds_by_roads(net, positions, held, tank, base)
    if worlds is None:
        return None
    zero, one = worlds
    return (zero, volts_in(net, zero), one, volts_in(net, one))


def volts_in(net, world):
    """Return the volts of a world."""
    _, flows, rooms, charges = world
    return solved_volts(net, flows, rooms, charges)
