"""For each parameter of the interface, values that are not as stated."""

from fractions import Fraction
from math import gcd

from helpers import JUNK, junk_but


def is_int(thing):
    return isinstance(thing, int) and not isinstance(thing, bool)


def is_pair(thing):
    """Return whether thing is a quotient."""
    if not (isinstance(thing, tuple) and len(thing) == 2 and is_int(thing[0]) and is_int(thing[1])):
        return False
    return thing[1] > 0 and gcd(*thing) == 1


def is_row(thing, many, fits):
    return isinstance(thing, tuple) and len(thing) == many and all(fits(part) for part in thing)


def near_row(row, parts):
    """Return what is nearly a row: a list, one part less, one more, each part once a bad one."""
    near = [list(row), row + (row[-1] if row else 0,), row + (None,), (row,)]
    if row:
        near.append(row[:-1])
    for at in range(len(row)):
        near.extend(row[:at] + (part,) + row[at + 1:] for part in parts)
    return near


NO_VALUES = (3, -1, None, True, False, "0", (0,), [1], 10 ** 30)
NO_QUOTIENTS = ((2, 4), (0, 2), (1, -2), (1, 0), [1, 2], (1,), (1, 2, 3), (True, 1), (1, True), 1, 0, None, "1/2", (1, None), ((1, 2), 1))


def bad_positions(net):
    good = tuple(1 for _ in net[2])
    ties = [good[:at] + (other,) + good[at + 1:] for at, switch in enumerate(net[2]) if switch[0] == "tie" for other in (0, 2)]
    fits = lambda thing: is_row(thing, len(good), lambda part: is_int(part) and 0 <= part <= 2) and all(
        switch[0] != "tie" or part == 1 for switch, part in zip(net[2], thing))
    return junk_but(fits) + near_row(good, NO_VALUES) + ties


def bad_values(net, many):
    """Return what is no tuple of so many values that begins with 0 and 1."""
    good = (0, 1) + (2,) * (many - 2)
    fits = lambda thing: is_row(thing, many, lambda part: is_int(part) and 0 <= part <= 2) and thing[:2] == (0, 1)
    heads = [(1, 0) + good[2:], (0, 0) + good[2:], (1, 1) + good[2:], (2, 1) + good[2:], (0, 2) + good[2:], (2, 2) + good[2:]]
    return junk_but(fits) + near_row(good, NO_VALUES) + heads


def bad_states(net):
    many = len(net[0]) + len(net[1])
    held = (0, 1) + (2,) * (many - 2)
    positions = tuple(1 for _ in net[2])
    bad = [[positions, held], (held, positions), (positions,), (positions, held, held), positions + held]
    bad = [thing for thing in bad if thing != (positions, held)]
    bad += [(positions, thing) for thing in bad_values(net, many)[-25:]]
    bad += [(thing, held) for thing in bad_positions(net)[-25:]]
    return list(JUNK) + bad


def bad_numbers(least, most=None):
    """Return what is no integer from least on, or to most."""
    fits = lambda thing: is_int(thing) and least <= thing and (most is None or thing <= most)
    return junk_but(fits) + [least - 1, True, False, str(least), (least,), None] + ([] if most is None else [most + 1])


def bad_quotients(many, fits, parts):
    """Return what is no tuple of so many quotients that fit."""
    row = tuple((1, 1) for _ in range(many))
    all_fit = lambda thing: is_row(thing, many, lambda part: is_pair(part) and fits(Fraction(*part)))
    return junk_but(all_fit) + near_row(row, NO_QUOTIENTS + parts)


def bad_flows(net):
    return bad_quotients(len(net[2]), lambda one: one >= 0, ((-1, 1), (-1, 10 ** 40)))


def bad_rooms(net):
    return bad_quotients(len(net[1]), lambda one: one > 0, ((-1, 1), (0, 1), (-1, 10 ** 40)))


def bad_charges(net):
    beyond = ((-1, 1), (2, 1), (-1, 10 ** 40), (10 ** 40 + 1, 10 ** 40))
    return bad_quotients(len(net[0]) + len(net[1]), lambda one: 0 <= one <= 1, beyond)


def a_world(net):
    """Return a world of the net that fits nothing in particular."""
    nodes = len(net[0]) + len(net[1])
    return (2, ((1, 1),) * len(net[2]), ((1, 1),) * len(net[1]), ((1, 2),) * nodes)


def bad_worlds(net):
    world = a_world(net)
    bad = [list(world), world[:3], world + (1,), world[1:], (world,)]
    bad += [(base,) + world[1:] for base in (1, 0, -2, True, None, "2", (2, 1), (2,))]
    for at, things in enumerate((bad_flows(net), bad_rooms(net), bad_charges(net)), 1):
        bad += [world[:at] + (thing,) + world[at + 1:] for thing in things[-30:]]
    return list(JUNK) + bad


def bad_lots(least, most):
    """Return what is no lot of numbers from least to most."""
    fits = lambda thing: isinstance(thing, tuple) and all(is_int(one) and least <= one <= most for one in thing) and (
        list(thing) == sorted(set(thing)))
    return junk_but(fits) + [(least, least), (least, True), [least], [], (least - 1,), (most + 1,), (least, most + 1), None]


def bads(net):
    """Return a dict with bad values for each parameter that is about a net."""
    feeds, nodes, switches = len(net[0]), len(net[0]) + len(net[1]), len(net[2])
    slacks = junk_but(lambda thing: is_pair(thing) and thing[0] >= 0) + list(NO_QUOTIENTS) + [(-1, 2), (-1, 10 ** 50)]
    return {
        "positions": bad_positions(net),
        "held": bad_values(net, nodes),
        "feeds": bad_values(net, feeds),
        "state": bad_states(net),
        "node": bad_numbers(0, nodes - 1),
        "root": bad_numbers(0, nodes - 1),
        "tank": bad_numbers(feeds, nodes - 1) + list(range(feeds)),
        "switch": bad_numbers(0, switches - 1),
        "value": bad_numbers(0, 1),
        "flows": bad_flows(net),
        "rooms": bad_rooms(net),
        "charges": bad_charges(net),
        "volts": bad_charges(net),
        "world": bad_worlds(net),
        "slack": slacks,
        "base": bad_numbers(2),
        "adrift": bad_numbers(0),
        "limit": bad_numbers(1),
        "usable": bad_lots(0, switches - 1),
        "watched": bad_lots(feeds, nodes - 1),
        # Any value is as stated for these two; they stand here behind bad ones.
        "thing": [None],
        "paper": [None],
    }
