"""Point 26: what nets are, what is wrong with others, and states."""

import itertools

from everyohm.netkinds import is_net, net_fault
from everyohm.statekinds import is_feeds, is_held, is_positions, is_state
from helpers import BARE, CROSS, FIGHT, JUNK, NETS, STORE, TURNER, Case, junk_but

FEEDS = ("low", "high", "a", "b.c[1]")
TANKS = (("q", 1), ("r[0]", 4), ("s", 2))
SWITCHES = (("one", 1, 2, 0, 4), ("tie", 6, -1, 5, 6), ("zero", 3, 4, 4, 5))
BAD_NAMES = (
    None, 0, True, "", "x", "A", "a.x", "a[01]", "a" * 17, ["a"], ("c",), ("c", 1), "a b", "a[1000000]", "low", "high",
)
BAD_FLAWS = (
    ("switch", (None, 0, "one", (), ("one",), ("one", 1, 2, 0), ("one", 1, 2, 0, 4, 0), ["one", 1, 2, 0, 4], True)),
    ("kind", tuple((kind, 9, -1, 9, 9) for kind in ("two", "", None, 0, True, ("one",), ["one"], "tie ", "ONE"))),
    ("strength", tuple(("one", strength, -1, 9, 9) for strength in (0, 7, -1, True, None, "1", (1,), 10 ** 9))),
    ("gate", tuple(("one", 1, gate, 9, 9) for gate in (-1, 7, True, False, None, "a", (2,), 10 ** 20, -2))),
    ("gate", tuple(("zero", 1, gate, 9, 9) for gate in (-1, 7, True, None))),
    ("gate", tuple(("tie", 1, gate, 9, 9) for gate in (0, 2, 6, -2, None, True, False, "-1"))),
    ("ends", tuple(("one", 1, 2, left, right) for left, right in (
        (0, 0), (4, 4), (-1, 0), (0, -1), (7, 0), (0, 7), (True, 0), (0, True), (None, 0), (0, None), ("q", 0), (0, "q"),
        ((0,), 1), (1, [0]), (False, 1), (True, False),
    ))),
    ("ends", (("tie", 1, -1, -1, 0), ("tie", 1, -1, 3, 3), ("zero", 1, 2, 0, 10 ** 9))),
)


class NetKindsTest(Case):
    def fault(self, wanted, thing):
        with self.subTest(thing=thing):
            self.gives(wanted, net_fault, thing=thing)
            self.gives(wanted is None, is_net, thing=thing)

    def test_nets(self):
        for net in NETS + ((FEEDS, TANKS, SWITCHES), (FEEDS, (), ()), (("low", "high"), TANKS, ())):
            self.fault(None, net)
        self.fault(None, (("low", "high"), (("a", 1),), (("one", 1, 2, 2, 0), ("zero", 1, 0, 0, 1), ("one", 6, 1, 1, 2))))
        many = (
            ("low", "high") + tuple(f"f[{at}]" for at in range(38)), tuple((f"t[{at}]", 1) for at in range(120)),
            tuple(("one", 6, at % 160, at % 160, (at + 1) % 160) for at in range(400)),
        )
        self.fault(None, many)

    def test_shapes(self):
        for thing in (
            None, 0, True, "", (), [], (FEEDS, TANKS), (FEEDS, TANKS, SWITCHES, ()), [FEEDS, TANKS, SWITCHES],
            (list(FEEDS), TANKS, SWITCHES), (FEEDS, list(TANKS), SWITCHES), (FEEDS, TANKS, list(SWITCHES)),
            (FEEDS, None, SWITCHES), ("low", "high", ()), (1, 2, 3), ("", (), ()), ((), (), None),
        ):
            self.fault(("shape", -1), thing)

    def test_first_feeds(self):
        for feeds in ((), ("low",), ("high", "low"), ("a", "low", "high"), ("low", "a", "high"), (0, 1), ("low", None), ("low", ["high"])):
            self.fault(("feeds", -1), (feeds, (None,), (None,)))

    def test_feeds(self):
        for name in BAD_NAMES + ("a",):
            self.fault(("feed", 3), (("low", "high", "a", name), (None,), (None,)))
            self.fault(("feed", 3), (("low", "high", "a", name, name, None), TANKS, ()))
        for name in BAD_NAMES:
            self.fault(("feed", 2), (("low", "high", name, "b"), TANKS, SWITCHES))

    def test_tanks(self):
        bad = [(name, 1) for name in BAD_NAMES + ("a", "b.c[1]")] + [
            ("t", size) for size in (0, 5, -1, True, None, "1", (1,))
        ] + [("t",), ("t", 1, 1), ["t", 1], "t", None, (), 1, (1, "t")]
        for tank in bad:
            self.fault(("tank", 0), (FEEDS, (tank,) + TANKS, (None,)))
            self.fault(("tank", 3), (FEEDS, TANKS + (tank,), SWITCHES))
            self.fault(("tank", 1), (FEEDS, (("t2", 1), tank, tank, None), ()))
        self.fault(("tank", 3), (FEEDS, TANKS + (("r[0]", 4),), SWITCHES))

    def test_switches(self):
        for word, flawed in BAD_FLAWS:
            for switch in flawed:
                self.fault((word, 0), (FEEDS, TANKS, (switch,)))
                self.fault((word, 3), (FEEDS, TANKS, SWITCHES + (switch,)))
                self.fault((word, 2), (FEEDS, TANKS, SWITCHES[:2] + (switch,) + SWITCHES[2:] + (None,)))
                self.fault((word, 1), (FEEDS, TANKS, (SWITCHES[0], switch, ("two", 0, 0, 0, 0))))

    def test_two_faults_in_one_switch(self):
        self.fault(("kind", 0), (FEEDS, TANKS, (("two", 0, -2, 0, 0),)))
        self.fault(("strength", 0), (FEEDS, TANKS, (("tie", 0, 0, 0, 0),)))
        self.fault(("gate", 0), (FEEDS, TANKS, (("tie", 1, 0, 0, 0),)))

    def test_nodes_are_those_of_the_net(self):
        for count in range(3):
            tanks = TANKS[:count]
            nodes = 4 + count
            self.fault(None, (FEEDS, tanks, (("one", 1, nodes - 1, nodes - 1, 0),)))
            self.fault(("gate", 0), (FEEDS, tanks, (("one", 1, nodes, 0, 1),)))
            self.fault(("ends", 0), (FEEDS, tanks, (("one", 1, 0, 0, nodes),)))

    def test_junk(self):
        nets = [thing for thing in JUNK if thing == BARE]
        for thing in JUNK:
            self.same(is_net(thing), thing in nets and isinstance(thing, tuple))


class StateKindsTest(Case):
    def test_positions(self):
        for net in NETS:
            ties = [switch[0] == "tie" for switch in net[2]]
            for thing in itertools.product((0, 1, 2), repeat=len(ties)):
                wanted = all(value == 1 for value, tie in zip(thing, ties) if tie)
                self.same(is_positions(net, thing), wanted)
        self.gives(True, is_positions, net=TURNER, thing=(1, 2))
        for thing in ((1,), (1, 1, 1), (0, 1), (2, 1), (1, 3), (1, -1), (1, True), (True, 1), [1, 1], (1, "1"), (1, None), None, ()):
            self.gives(False, is_positions, net=TURNER, thing=thing)
        self.gives(True, is_positions, net=BARE, thing=())

    def test_held(self):
        for feeds in itertools.product((0, 1, 2), repeat=4):
            self.same(is_held(STORE, feeds + (0,)), feeds[:2] == (0, 1))
            self.same(is_feeds(STORE, feeds), feeds[:2] == (0, 1))
        self.gives(True, is_held, net=TURNER, thing=(0, 1, 2, 2))
        self.gives(True, is_feeds, net=TURNER, thing=(0, 1, 2))
        for thing in (
            (0, 1, 2), (0, 1, 2, 2, 2), (1, 0, 2, 2), (0, 1, 3, 0), (0, 1, 0, -1), (0, 1, True, 0), (0, True, 0, 0),
            (False, 1, 0, 0), [0, 1, 0, 0], (0, 1, 0, None), (0, 1, "0", 0), None, (), 0, (2, 1, 0, 0), (0, 2, 0, 0),
        ):
            self.gives(False, is_held, net=TURNER, thing=thing)
        for thing in ((0, 1), (0, 1, 0, 0), (0, 1, 3), (0, 1, True), (0, True, 1), [0, 1, 0], (0, 0, 1), (1, 1, 1), None, ()):
            self.gives(False, is_feeds, net=TURNER, thing=thing)
        self.gives(True, is_held, net=BARE, thing=(0, 1))
        self.gives(True, is_feeds, net=BARE, thing=(0, 1))

    def test_states(self):
        self.gives(True, is_state, net=TURNER, thing=((1, 2), (0, 1, 2, 2)))
        self.gives(True, is_state, net=BARE, thing=((), (0, 1)))
        for thing in (
            ((0, 2), (0, 1, 2, 2)), ((1, 2), (0, 0, 2, 2)), [(1, 2), (0, 1, 2, 2)], ((1, 2), [0, 1, 2, 2]),
            ([1, 2], (0, 1, 2, 2)), ((1, 2),), ((1, 2), (0, 1, 2, 2), ()), ((0, 1, 2, 2), (1, 2)), (), None, 0,
            ((1, True), (0, 1, 2, 2)), ((1, 2), (0, 1, 2, True)),
        ):
            self.gives(False, is_state, net=TURNER, thing=thing)

    def test_junk(self):
        for thing in junk_but(lambda thing: thing == ()):
            self.same(is_state(CROSS, thing), False)
            self.same(is_positions(CROSS, thing), thing == (1,) * 6 and isinstance(thing, tuple))
            self.same(is_held(CROSS, thing), False)
            self.same(is_feeds(CROSS, thing), False)
        self.same(is_state(FIGHT, ((1, 1), (0, 1, 0))), True)
