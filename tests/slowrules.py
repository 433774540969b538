"""Rules straight from the words, and nets without what they make go."""

import itertools

from bads import is_int
from slowranks import slow_lots, tanks_of


def slow_cone(net, watched):
    """Return the tanks of the fewest groups that have the watched tanks and the gates that they need."""
    groups = slow_lots(net, [switch[3:] for switch in net[2]])
    for many in range(len(groups) + 1):
        for chosen in itertools.combinations(groups, many):
            tanks = {tank for group in chosen for tank in group}
            gates = {switch[2] for switch in net[2] if set(switch[3:]) & tanks and switch[2] >= len(net[0])}
            if set(watched) | gates <= tanks:
                return tanks
    return None


def slow_is_rule(net, watched, thing):
    """Return what is_rule is to return."""
    if not isinstance(thing, tuple) or not thing or not isinstance(thing[0], str):
        return False
    word, parts = thing[0], thing[1:]
    many = {"bridge": 1, "twin": 2, "shadow": 2, "stub": 1, "series": 3, "unseen": 0}
    if word not in many or len(parts) != many[word] or not all(is_int(part) for part in parts):
        return False
    if word == "unseen":
        return bool(set(tanks_of(net)) - slow_cone(net, watched))
    tank = parts[0] if word in ("stub", "series") else None
    places = parts if tank is None else parts[1:]
    if not all(0 <= place < len(net[2]) for place in places):
        return False
    rows = [net[2][place] for place in places]
    if tank is None:
        return fits_beside(net, word, places, rows)
    if tank not in tanks_of(net) or tank in watched or any(switch[2] == tank for switch in net[2]):
        return False
    own = [place for place, switch in enumerate(net[2]) if tank in switch[3:]]
    others = [sum(net[2][place][3:]) - tank for place in own]
    rank = lambda node: 11 if node < len(net[0]) else net[1][node - len(net[0])][1]
    if any(rank(node) <= rank(tank) for node in others):
        return False
    if word == "stub":
        return len(set(others)) <= 1
    return own == list(places) and others[0] != others[1] and rows[0][0] == rows[1][0] and rows[0][2] == rows[1][2]


def fits_beside(net, word, places, rows):
    ends = [frozenset(row[3:]) for row in rows]
    if word == "bridge":
        return all(node < len(net[0]) for node in ends[0])
    one, other = rows
    if ends[0] != ends[1] or other[1] > one[1] or places[0] == places[1]:
        return False
    if word == "twin":
        return one[0] == other[0] and one[2] == other[2]
    return one[0] == "tie" and other[0] != "tie"


def slow_rules(net, watched):
    """Return all rules, by trying everything that could be one."""
    places, tanks = range(len(net[2])), tanks_of(net)
    pairs = list(itertools.product(places, repeat=2))
    things = [("bridge", place) for place in places] + [(word,) + pair for word in ("twin", "shadow") for pair in pairs]
    things += [("stub", tank) for tank in tanks] + [("series", tank) + pair for tank in tanks for pair in pairs] + [("unseen",)]
    return tuple(thing for thing in things if slow_is_rule(net, watched, thing))


def slow_done(net, watched, rule):
    """Return what rule_done is to return, with nodes named while the net becomes shorter."""
    feeds, tanks, switches = net
    names = list(feeds) + [name for name, _ in tanks]
    rows = {
        place: [kind, strength, None if kind == "tie" else names[gate], names[left], names[right]]
        for place, (kind, strength, gate, left, right) in enumerate(switches)}
    gone = set()
    if rule[0] in ("bridge", "twin", "shadow"):
        del rows[rule[-1]]
    elif rule[0] == "stub":
        gone = {names[rule[1]]}
    elif rule[0] == "unseen":
        gone = {names[tank] for tank in set(tanks_of(net)) - slow_cone(net, watched)}
    else:
        _, tank, one, other = rule
        gone = {names[tank]}
        ends = [next(name for name in rows[place][3:] if name != names[tank]) for place in (one, other)]
        rows[one] = [rows[one][0], min(rows[one][1], rows[other][1]), rows[one][2]] + ends
        del rows[other]
    rows = {place: row for place, row in rows.items() if not gone & set(row[2:])}
    left = [name for name in names if name not in gone]
    number = lambda name: -1 if name is None else left.index(name)
    kept = sorted(rows)
    shorter = (
        feeds, tuple(pair for pair in tanks if pair[0] not in gone),
        tuple((rows[at][0], rows[at][1], number(rows[at][2]), number(rows[at][3]), number(rows[at][4])) for at in kept))
    return (
        shorter, tuple(-1 if name in gone else left.index(name) for name, _ in tanks),
        tuple(kept.index(place) if place in rows else -1 for place in range(len(switches))))


def even_state(source, net):
    """Return a state in which switches of the same kind and gate have the same position."""
    found = {}
    positions = tuple(
        1 if kind == "tie" else found.setdefault((kind, gate), source.randrange(3)) for kind, _, gate, _, _ in net[2])
    return positions, (0, 1) + tuple(source.randrange(3) for _ in range(len(net[0]) + len(net[1]) - 2))
