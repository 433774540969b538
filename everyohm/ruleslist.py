"""All rules that fit a net."""

from everyohm.checks import require
from everyohm.groups import is_watched
from everyohm.netnodes import count_of_nodes, switches_at
from everyohm.rulekinds import does_fit, ends_of


def rules_of(net, watched):
    """Return all rules that fit: by their words, those with one word ascending."""
    require(is_watched(net, watched), "watched")
    return tuple(rule for rule in candidates(net) if does_fit(net, watched, rule))


def candidates(net):
    """Return all that may be rules, in the sequence of rules."""
    tanks = list(range(len(net[0]), count_of_nodes(net)))
    pairs = pairs_beside(net)
    rows = [("bridge", place) for place in range(len(net[2]))]
    for word in ("twin", "shadow"):
        rows.extend([(word,) + pair for pair in pairs])
    rows.extend([("stub", tank) for tank in tanks])
    for tank in tanks:
        beside = switches_at(net, tank)
        if len(beside) == 2:
            rows.append(("series", tank) + beside)
    rows.append(("unseen",))
    return rows


def pairs_beside(net):
    """Return all pairs of different switches with the same ends, ascending."""
    beside = {}
    for place in range(len(net[2])):
        beside.setdefault(ends_of(net, place), []).append(place)
    return [
        (place, other) for place in range(len(net[2])) for other in beside[ends_of(net, place)] if other != place
    ]


def first_rule(net, watched):
    """Return the first rule that fits, or None."""
    for rule in candidates(net):
        if does_fit(net, watched, rule):
            return rule
    return None
