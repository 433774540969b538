"""Turns straight from the definitions, one position and one tank at a time."""

import itertools

from slowranks import slow_response, tanks_of


def slow_readings(net, held):
    row = []
    for kind, _, gate, _, _ in net[2]:
        value = 1 if kind == "tie" else held[gate]
        row.append(1 - value if kind == "zero" and value != 2 else value)
    return tuple(row)


def join(one, other):
    return one if one == other else 2


def join_all(ones, others):
    return tuple(join(one, other) for one, other in zip(ones, others))


def above(one, other):
    """Return whether the first state is above the second one."""
    return all(u in (v, 2) for row, other_row in zip(one, other) for u, v in zip(row, other_row))


def slow_begun(state, feeds):
    positions, held = state
    return positions, feeds + held[len(feeds):]


def slow_spread(net, state, feeds):
    state = slow_begun(state, feeds)
    while True:
        positions = join_all(state[0], slow_readings(net, state[1]))
        held = join_all(state[1], slow_response(net, positions, state[1]))
        if (positions, held) == state:
            return state
        state = (positions, held)


def slow_chain(net, state):
    states = [state]
    while True:
        positions = slow_readings(net, states[-1][1])
        new = (positions, slow_response(net, positions, states[-1][1]))
        if new == states[-1]:
            return tuple(states)
        states.append(new)


def slow_turn(net, state, feeds):
    first = slow_spread(net, state, feeds)
    return first, slow_chain(net, first)


def items_of(net):
    return [("switch", place) for place in range(len(net[2]))] + [("tank", tank) for tank in tanks_of(net)]


def aims(net, state):
    """Return a dict with what each item is, and what it reads or responds."""
    positions, held = state
    told = slow_response(net, positions, held)
    rows = {("switch", place): pair for place, pair in enumerate(zip(positions, slow_readings(net, held)))}
    rows.update({("tank", tank): (held[tank], told[tank]) for tank in tanks_of(net)})
    return rows


def states_between(least, most):
    """Return all states that are above one state and below another one."""
    rows = []
    for one, other in zip(least[0] + least[1], most[0] + most[1]):
        if one == other:
            rows.append((one,))
        elif other == 2:
            rows.append((one, 2) if one != 2 else (2,))
    many = len(least[0])
    return [(row[:many], row[many:]) for row in itertools.product(*rows)]
