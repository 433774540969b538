"""Nets and states made at random."""

NAMES = ("a", "b", "c.d", "e[0]", "e[1]", "f", "g.h[2]", "i", "j", "k", "l", "m", "n", "o", "p", "y", "z")


def some_net(source, feeds, tanks, switches):
    """Return a net with at most so many further feeds, tanks and switches."""
    names = source.sample(NAMES, len(NAMES))
    many = source.randint(0, feeds)
    feed_names = ("low", "high") + tuple(names[:many])
    tank_pairs = tuple((name, source.randint(1, 4)) for name in names[many:many + source.randint(0, tanks)])
    nodes = len(feed_names) + len(tank_pairs)
    return (feed_names, tank_pairs, tuple(some_switch(source, nodes) for _ in range(source.randint(0, switches))))


def some_switch(source, nodes):
    kind = source.choice(("one", "zero", "tie"))
    left, right = source.sample(range(nodes), 2)
    gate = -1 if kind == "tie" else source.randrange(nodes)
    return (kind, source.randint(1, 6), gate, left, right)


def some_state(source, net):
    """Return a state of the net."""
    positions = tuple(1 if switch[0] == "tie" else source.randrange(3) for switch in net[2])
    rest = len(net[0]) + len(net[1]) - 2
    return positions, (0, 1) + tuple(source.randrange(3) for _ in range(rest))
