"""What a net is, and what is wrong with what is none."""

from everyohm.bookkinds import is_kind, is_size, is_strength
from everyohm.kinds import is_between, is_flat_name


def is_net(thing):
    """Return whether thing is a net."""
    return net_fault(thing) is None


def net_fault(thing):
    """Return None for a net, otherwise its first fault: a word and a place."""
    if not is_triple(thing):
        return ("shape", -1)
    feeds, tanks, switches = thing
    if feeds[:2] != ("low", "high"):
        return ("feeds", -1)
    place = feed_fault(feeds)
    if place >= 0:
        return ("feed", place)
    place = tank_fault(feeds, tanks)
    if place >= 0:
        return ("tank", place)
    return first_switch_fault(switches, len(feeds) + len(tanks))


def is_triple(thing):
    """Return whether thing is a triple of tuples."""
    if not isinstance(thing, tuple) or len(thing) != 3:
        return False
    return all(isinstance(part, tuple) for part in thing)


def feed_fault(feeds):
    """Return the place of the first feed that is no new flat name, or -1."""
    seen = set()
    for place, name in enumerate(feeds):
        if not is_flat_name(name) or name in seen:
            return place
        seen.add(name)
    return -1


def tank_fault(feeds, tanks):
    """Return the place of the first tank that is none, or has an old name, or -1."""
    seen = set(feeds)
    for place, tank in enumerate(tanks):
        if not is_tank_pair(tank) or tank[0] in seen:
            return place
        seen.add(tank[0])
    return -1


def is_tank_pair(thing):
    """Return whether thing is a pair of a flat name and a size."""
    if not isinstance(thing, tuple) or len(thing) != 2:
        return False
    return is_flat_name(thing[0]) and is_size(thing[1])


def first_switch_fault(switches, nodes):
    """Return the first fault of a switch among so many nodes, or None."""
    for place, switch in enumerate(switches):
        word = switch_fault(switch, nodes)
        if word != "":
            return (word, place)
    return None


def switch_fault(switch, nodes):
    """Return the word for what is wrong with a switch, or an empty one."""
    if not isinstance(switch, tuple) or len(switch) != 5:
        return "switch"
    kind, strength, gate, left, right = switch
    if not is_kind(kind):
        return "kind"
    if not is_strength(strength):
        return "strength"
    least, most = (-1, -1) if kind == "tie" else (0, nodes - 1)
    if not is_between(gate, least, most):
        return "gate"
    if not is_between(left, 0, nodes - 1) or not is_between(right, 0, nodes - 1) or left == right:
        return "ends"
    return ""
