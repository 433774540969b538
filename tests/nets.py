"""Nets, states and worlds made at random."""

from fractions import Fraction

NAMES = ("a", "b", "c.d", "e[0]", "e[1]", "f", "g.h[2]", "i", "j", "k", "l", "m", "n", "o", "p", "y", "z")


def some_net(source, feeds, tanks, switches):
    """Return a net with at most so many further feeds, tanks and switches."""
    names = source.sample(NAMES, len(NAMES))
    many = source.randint(0, feeds)
    feed_names = ("low", "high") + tuple(names[:many])
    tank_pairs = tuple((name, source.randint(1, 4)) for name in names[many:many + source.randint(0, tanks)])
    nodes = len(feed_names) + len(tank_pairs)
    return (feed_names, tank_pairs, tuple(some_switch(source, nodes) for _ in range(source.randint(0, switches))))


def some_switch(source, nodes):
    kind = source.choice(("one", "zero", "tie"))
    left, right = source.sample(range(nodes), 2)
    gate = -1 if kind == "tie" else source.randrange(nodes)
    return (kind, source.randint(1, 6), gate, left, right)


def some_state(source, net):
    """Return a state of the net."""
    positions = tuple(1 if switch[0] == "tie" else source.randrange(3) for switch in net[2])
    rest = len(net[0]) + len(net[1]) - 2
    return positions, (0, 1) + tuple(source.randrange(3) for _ in range(rest))


def likely_net(source, feeds, tanks, switches):
    """Return a net as some_net does, with at least one tank, and few strengths and sizes.

    Few strengths and sizes make equal ranks, and so unknown responses, frequent.
    """
    net = some_net(source, feeds, tanks, switches)
    while not net[1]:
        net = some_net(source, feeds, tanks, switches)
    most = source.choice((1, 2, 2, 3, 6))
    sizes = tuple((name, (size - 1) % min(most, 4) + 1) for name, size in net[1])
    rows = tuple((kind, (strength - 1) % most + 1, gate, left, right) for kind, strength, gate, left, right in net[2])
    return (net[0], sizes, rows)


def some_feeds(source, net):
    """Return feed values of the net."""
    return (0, 1) + tuple(source.randrange(3) for _ in net[0][2:])


def known_state(source, net):
    """Return a state of the net without a 2."""
    positions, held = some_state(source, net)
    known = lambda values: tuple(source.randrange(2) if value == 2 else value for value in values)
    return known(positions), known(held)


def some_quotient(source, least, most):
    """Return a quotient from one integer to another one, often one of the two."""
    if source.random() < 0.3:
        return (source.choice((least, most)), 1)
    bottom = source.choice((1, 2, 3, 7, 10 ** 6, 10 ** 9 + 7))
    fraction = Fraction(source.randint(least * bottom, most * bottom), bottom)
    return (fraction.numerator, fraction.denominator)


def some_world(source, net, positions, held, base):
    """Return a world with this base that fits the positions and held values."""
    bounds = lambda order: (base ** (2 * order), base ** (2 * order + 1))
    flows = []
    for switch, position in zip(net[2], positions):
        least, most = bounds(switch[1])
        flows.append(some_quotient(source, (0, least, 0)[position], (0, most, most)[position]))
    rooms = tuple(some_quotient(source, *bounds(size)) for _, size in net[1])
    charges = tuple(some_quotient(source, 0, 1) if value == 2 else (value, 1) for value in held)
    return (base, tuple(flows), rooms, charges)
