"""End worlds: all that can be least or greatest is one of the two."""

from everyohm.checks import require
from everyohm.kinds import is_known
from everyohm.netnodes import is_tank_of
from everyohm.parts import part_with
from everyohm.quotients import greatest_of, least_of
from everyohm.showing import charges_with
from everyohm.statekinds import require_view
from everyohm.volts import part_volts
from everyohm.worldkinds import bounds_of, is_base


def end_worlds(net, positions, held, base):
    """Give all end worlds, each once."""
    require_view(net, positions, held)
    require(is_base(base), "base")
    flows = flow_choices(net, positions, base)
    rooms = [whole_pair(bounds_of(base, size)) for _, size in net[1]]
    charges = charge_choices(held)
    choices = flows + rooms + [charges]
    for number in range(count_of_ways(choices)):
        picked = picked_by(choices, number)
        yield (base, picked[:len(flows)], picked[len(flows):-1], picked[-1])


def flow_choices(net, positions, base):
    """Return for each switch the flows that it has in end worlds."""
    choices = []
    for switch, position in zip(net[2], positions):
        least, greatest = bounds_of(base, switch[1])
        choices.append((((0, 1),), whole_pair((least, greatest)), whole_pair((0, greatest)))[position])
    return choices


def whole_pair(integers):
    """Return the quotients that stand for two integers."""
    return ((integers[0], 1), (integers[1], 1))


def charge_choices(held):
    """Return the charges that all nodes together have in end worlds."""
    if 2 not in held:
        return (charges_with(held, 0),)
    return (charges_with(held, 0), charges_with(held, 1))


def count_of_ways(choices):
    """Return in how many ways one can pick one of each."""
    ways = 1
    for row in choices:
        ways = ways * len(row)
    return ways


def picked_by(choices, number):
    """Return what is picked in the way with this number."""
    picked = []
    rest = number
    for row in choices:
        rest, place = divmod(rest, len(row))
        picked.append(row[place])
    return tuple(picked)


def ends_at(net, positions, held, tank, base):
    """Return the least and the greatest volt at the tank in the end worlds."""
    require_question(net, positions, held, tank, base)
    volts = [volt_in(net, world, tank) for world in end_worlds(net, positions, held, base)]
    return least_of(tuple(volts)), greatest_of(tuple(volts))


def require_question(net, positions, held, tank, base):
    """Raise NotUsable unless one can ask for the end worlds of the tank."""
    require_view(net, positions, held)
    require(is_tank_of(net, tank), "tank")
    require(is_base(base), "base")


def end_world(net, positions, held, tank, base, value):
    """Return an end world with the least volt at the tank for 0, the greatest for 1."""
    require_question(net, positions, held, tank, base)
    require(is_known(value), "value")
    worlds = list(end_worlds(net, positions, held, base))
    volts = [volt_in(net, world, tank) for world in worlds]
    wanted = greatest_of(tuple(volts)) if value == 1 else least_of(tuple(volts))
    return worlds[volts.index(wanted)]


def volt_in(net, world, tank):
    """Return the volt of a tank in a world."""
    _, flows, rooms, charges = world
    tanks, feeds = part_with(net, flows, tank)
    return part_volts(net, flows, rooms, charges, tanks, feeds)[tanks.index(tank)]
