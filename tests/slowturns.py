"""Turns straight from the definitions, one position and one tank at a time."""

import itertools

from bads import is_int
from slowpapers import slow_tables_judge
from slowranks import slow_lots, slow_response, tanks_of


def slow_readings(net, held):
    row = []
    for kind, _, gate, _, _ in net[2]:
        value = 1 if kind == "tie" else held[gate]
        row.append(1 - value if kind == "zero" and value != 2 else value)
    return tuple(row)


def join(one, other):
    return one if one == other else 2


def join_all(ones, others):
    return tuple(join(one, other) for one, other in zip(ones, others))


def above(one, other):
    """Return whether the first state is above the second one."""
    return all(u in (v, 2) for row, other_row in zip(one, other) for u, v in zip(row, other_row))


def slow_begun(state, feeds):
    positions, held = state
    return positions, feeds + held[len(feeds):]


def slow_spread(net, state, feeds):
    state = slow_begun(state, feeds)
    while True:
        positions = join_all(state[0], slow_readings(net, state[1]))
        held = join_all(state[1], slow_response(net, positions, state[1]))
        if (positions, held) == state:
            return state
        state = (positions, held)


def slow_chain(net, state):
    states = [state]
    while True:
        positions = slow_readings(net, states[-1][1])
        new = (positions, slow_response(net, positions, states[-1][1]))
        if new == states[-1]:
            return tuple(states)
        states.append(new)


def slow_turn(net, state, feeds):
    first = slow_spread(net, state, feeds)
    return first, slow_chain(net, first)


def items_of(net):
    return [("switch", place) for place in range(len(net[2]))] + [("tank", tank) for tank in tanks_of(net)]


def aims(net, state):
    """Return a dict with what each item is, and what it reads or responds."""
    positions, held = state
    told = slow_response(net, positions, held)
    rows = {("switch", place): pair for place, pair in enumerate(zip(positions, slow_readings(net, held)))}
    rows.update({("tank", tank): (held[tank], told[tank]) for tank in tanks_of(net)})
    return rows


def states_between(least, most):
    """Return all states that are above one state and below another one."""
    rows = []
    for one, other in zip(least[0] + least[1], most[0] + most[1]):
        if one == other:
            rows.append((one,))
        elif other == 2:
            rows.append((one, 2) if one != 2 else (2,))
    many = len(least[0])
    return [(row[:many], row[many:]) for row in itertools.product(*rows)]


def slow_turn_judge(net, state, feeds, paper):
    """Return what judge_turn is to return."""
    first = len(net[0])
    if not isinstance(paper, tuple) or not paper:
        return None
    for at, pair in enumerate(paper):
        if not isinstance(pair, tuple) or len(pair) != 2 or not is_slow_state(net, pair[0], feeds):
            return None
        (positions, held), tables = pair
        if at == 0:
            by = held
            if not above((positions, held[first:]), (state[0], state[1][first:])):
                return None
            if not above((positions,), (slow_readings(net, held),)):
                return None
        else:
            by = paper[at - 1][0][1]
            if positions != slow_readings(net, by):
                return None
        told = slow_tables_judge(net, positions, by, tables)
        if told is None or not above((held[first:],), (told[first:],)):
            return None
    return paper[-1][0], len(paper) - 1


def is_slow_state(net, thing, feeds):
    """Return whether thing is a state with these feed values."""
    if not isinstance(thing, tuple) or len(thing) != 2 or not all(isinstance(row, tuple) for row in thing):
        return False
    positions, held = thing
    if not all(is_int(value) and 0 <= value <= 2 for value in positions + held):
        return False
    if len(positions) != len(net[2]) or len(held) != len(net[0]) + len(net[1]) or held[:len(feeds)] != feeds:
        return False
    return all(switch[0] != "tie" or position == 1 for switch, position in zip(net[2], positions))


def slow_reached(net, state, feeds):
    """Return the fewest groups of all sets of groups that are closed, by trying all sets."""
    groups = slow_lots(net, [switch[3:] for switch in net[2]])
    if state != (slow_readings(net, state[1]), slow_response(net, *state)):
        return groups
    changed = {feed for feed, value in enumerate(feeds) if value != state[1][feed]}
    best = groups
    for many in range(len(groups) + 1):
        for chosen in itertools.combinations(groups, many):
            if len(chosen) < len(best) and all(group in chosen for group in groups if is_near(net, group, changed, chosen)):
                best = chosen
    return best


def is_near(net, group, changed, chosen):
    """Return whether a switch of a group has a changed feed as gate or end, or its gate in a chosen group."""
    return any(
        set(switch[3:]) & set(group) and (changed & set(switch[2:]) or any(switch[2] in other for other in chosen))
        for switch in net[2])
