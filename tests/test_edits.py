"""Points 30, 31 and 33: edits, and states carried over them."""

import random

from everyohm import edits
from everyohm.carrying import carried
from everyohm.edits import (
    with_feed, with_size, with_strength, with_switch, with_tank, without_switch, without_tank,
)
from everyohm.kinds import is_flat_name
from everyohm.netkinds import is_net
from everyohm.statekinds import is_state
from helpers import BARE, CROSS, DOUBLE, FIGHT, JUNK, LADDER, NETS, TURNER, Case, junk_but
from nets import some_net, some_state

BAD_NAMES = junk_but(is_flat_name) + ["x", "A", "a.x", "a[01]", "a" * 17, ("q",), "a b"]


def numbers_but(least, most):
    fits = lambda thing: isinstance(thing, int) and not isinstance(thing, bool) and least <= thing <= most
    return junk_but(fits) + [least - 1, most + 1, True, False, str(least), (least,)]


class EditsTest(Case):
    def test_with_feed(self):
        self.gives(((("low", "high", "a", "new.b[2]"), TURNER[1], (
            ("tie", 1, -1, 1, 4), ("one", 2, 2, 0, 4),
        )), (0, 1)), with_feed, net=TURNER, name="new.b[2]")
        self.gives((
            ("low", "high", "a", "b"), DOUBLE[1],
            (("tie", 1, -1, 1, 4), ("one", 2, 2, 0, 4), ("tie", 1, -1, 1, 5), ("one", 2, 4, 0, 5)),
        ), lambda net, name: with_feed(net, name)[0], net=DOUBLE, name="b")
        self.gives(((("low", "high", "a"), (), ()), ()), with_feed, net=BARE, name="a")

    def test_with_tank(self):
        self.gives(((TURNER[0], (("q", 1), ("r", 4)), TURNER[2]), (0, 1)), with_tank, net=TURNER, name="r", size=4)
        self.gives(((("low", "high"), (("a", 1),), ()), ()), with_tank, net=BARE, name="a", size=1)

    def test_without_tank(self):
        self.gives((
            (CROSS[0], CROSS[1][:3], CROSS[2]), (0, 1, 2, 3, 4, 5),
        ), without_tank, net=CROSS, name="t")
        net = (("low", "high"), (("p", 1), ("q", 2), ("r", 3)), (("one", 1, 4, 4, 2), ("tie", 1, -1, 2, 0)))
        self.gives((
            (("low", "high"), (("p", 1), ("r", 3)), (("one", 1, 3, 3, 2), ("tie", 1, -1, 2, 0))), (0, 1),
        ), without_tank, net=net, name="q")
        net = (("low", "high"), (("p", 1), ("q", 2)), (("one", 1, 3, 0, 3),))
        self.gives(((("low", "high"), (("q", 2),), (("one", 1, 2, 0, 2),)), (0,)), without_tank, net=net, name="p")

    def test_with_switch(self):
        for kind, gate, number in (("one", "a", 2), ("zero", "q", 3), ("one", "low", 0), ("tie", None, -1)):
            self.gives(
                ((TURNER[0], TURNER[1], TURNER[2] + ((kind, 6, number, 3, 2),)), (0, 1)),
                with_switch, net=TURNER, kind=kind, strength=6, gate=gate, left="q", right="a",
            )
        self.gives(
            ((("low", "high"), (), (("zero", 1, 1, 1, 0),)), ()),
            with_switch, net=BARE, kind="zero", strength=1, gate="high", left="high", right="low",
        )

    def test_without_switch(self):
        self.gives(((TURNER[0], TURNER[1], TURNER[2][1:]), (-1, 0)), without_switch, net=TURNER, switch=0)
        self.gives(((TURNER[0], TURNER[1], TURNER[2][:1]), (0, -1)), without_switch, net=TURNER, switch=1)
        self.gives((
            (CROSS[0], CROSS[1], CROSS[2][:2] + CROSS[2][3:]), (0, 1, -1, 2, 3, 4),
        ), without_switch, net=CROSS, switch=2)

    def test_with_strength_and_size(self):
        self.gives(((TURNER[0], TURNER[1], (TURNER[2][0], ("one", 6, 2, 0, 3))), (0, 1)),
                   with_strength, net=TURNER, switch=1, strength=6)
        self.gives((TURNER, (0, 1)), with_strength, net=TURNER, switch=0, strength=1)
        self.gives(((CROSS[0], (("p", 1), ("q", 4), ("r.s[3]", 1), ("t", 3)), CROSS[2]), (0, 1, 2, 3, 4, 5)),
                   with_size, net=CROSS, name="r.s[3]", size=1)

    def test_errors(self):
        for name in ("low", "high", "a", "b", "p", "q", "r.s[3]", "t"):
            self.fails("NameTwice", (name,), with_feed, CROSS, name)
            self.fails("NameTwice", (name,), with_tank, CROSS, name, 1)
        for name in ("low", "high", "a", "b", "c", "r.s[2]", "tt", "r.s"):
            self.fails("NoSuchName", (name,), without_tank, CROSS, name)
            self.fails("NoSuchName", (name,), with_size, CROSS, name, 1)
        for name in ("p", "q", "r.s[3]"):
            self.fails("StillUsed", (name,), without_tank, CROSS, name)
        gate_alone = (("low", "high"), (("p", 1), ("q", 1)), (("one", 1, 2, 0, 1), ("tie", 1, -1, 1, 3)))
        for name in ("p", "q"):
            self.fails("StillUsed", (name,), without_tank, gate_alone, name)
            self.fails("StillUsed", (name,), without_tank, net=gate_alone, name=name)
        for names, missing in (
            (("n1", "n2", "n3"), "n1"), (("a", "n2", "n3"), "n2"), (("a", "q", "n3"), "n3"), (("n1", "q", "a"), "n1"),
        ):
            self.fails("NoSuchName", (missing,), with_switch, CROSS, "one", 1, *names)
        self.fails("NoSuchName", ("n2",), with_switch, CROSS, "tie", 1, None, "n2", "n3")

    def test_wrong_arguments(self):
        sizes, strengths = numbers_but(1, 4), numbers_but(1, 6)
        switches = numbers_but(0, 5)
        net = ("net",)
        self.refuses(with_feed, {"net": CROSS, "name": "n"}, {"name": BAD_NAMES}, net)
        self.refuses(with_tank, {"net": CROSS, "name": "n", "size": 1}, {"name": BAD_NAMES, "size": sizes}, net)
        self.refuses(with_tank, {"net": CROSS, "name": "p", "size": 1}, {"name": BAD_NAMES, "size": sizes}, net)
        self.refuses(without_tank, {"net": CROSS, "name": "t"}, {"name": BAD_NAMES}, net)
        self.refuses(with_size, {"net": CROSS, "name": "none", "size": 1}, {"name": BAD_NAMES, "size": sizes}, net)
        self.refuses(without_switch, {"net": CROSS, "switch": 1}, {"switch": switches}, net)
        bad = {"switch": switches, "strength": strengths}
        self.refuses(with_strength, {"net": CROSS, "switch": 1, "strength": 1}, bad, net)
        self.fails("NotUsable", ("switch", -1), without_switch, BARE, 0)

    def test_wrong_switches(self):
        kinds = junk_but(lambda thing: thing in ("one", "zero", "tie")) + ["two", ("one",), "One"]
        bad = {"kind": kinds, "strength": numbers_but(1, 6), "gate": BAD_NAMES, "left": BAD_NAMES, "right": BAD_NAMES + ["p"]}
        for gate in ("a", "none"):
            good = {"net": CROSS, "kind": "one", "strength": 2, "gate": gate, "left": "p", "right": "q"}
            self.refuses(with_switch, good, bad, ("net",))
        tie = {"net": CROSS, "kind": "tie", "strength": 2, "gate": None, "left": "p", "right": "q"}
        bad["gate"] = [thing for thing in JUNK if thing is not None] + ["a", "none", -1]
        bad["kind"] = [kind for kind in kinds if not isinstance(kind, bool)]
        self.refuses(with_switch, tie, bad, ("net",))
        self.fails("NotUsable", ("right", -1), with_switch, CROSS, "one", 1, "none", "none", "none")

    def test_tank_there_and_back(self):
        for net in NETS:
            for size in (1, 4):
                other, places = with_tank(net, "brand.new", size)
                self.assertEqual(places, tuple(range(len(net[2]))))
                self.same(without_tank(other, "brand.new"), (net, places))

    def test_random_edits_give_nets(self):
        source = random.Random(301)
        for _ in range(400):
            net = some_net(source, 3, 5, 7)
            for other, places in all_edits(source, net):
                self.same(is_net(other), True)
                self.assertEqual(len(places), len(net[2]))
                for switch, place in enumerate(places):
                    if place >= 0:
                        self.assertEqual(by_names(net, switch), by_names(other, place))


def by_names(net, switch):
    """Return what a switch is, nodes by their names, without its strength."""
    names = list(net[0]) + [name for name, _ in net[1]] + [None]
    kind, _, gate, left, right = net[2][switch]
    return (kind, names[gate], names[left], names[right])


def all_edits(source, net):
    """Return what edits of all kinds make of a net."""
    names = list(net[0]) + [name for name, _ in net[1]]
    left, right = source.sample(names, 2)
    made = [
        with_feed(net, "brand.new"), with_tank(net, "brand.new", 2), with_switch(net, "tie", 3, None, left, right),
        with_switch(net, "zero", 3, source.choice(names), left, right),
    ]
    if net[2]:
        made.append(without_switch(net, source.randrange(len(net[2]))))
        made.append(with_strength(net, source.randrange(len(net[2])), 5))
    for name, _ in net[1]:
        made.append(with_size(net, name, 3))
        try:
            made.append(without_tank(net, name))
        except edits.StillUsed:
            pass
    return made


class CarryingTest(Case):
    def test_places_of_their_own(self):
        source = random.Random(31)
        for net in NETS + tuple(some_net(source, 3, 5, 7) for _ in range(100)):
            for _ in range(3):
                state = some_state(source, net)
                places = tuple(range(len(net[2])))
                self.gives(state, carried, net=net, state=state, other=net, places=places)

    def test_over_edits(self):
        state = ((1, 2), (0, 1, 1, 0))
        other, places = with_feed(TURNER, "b")
        self.gives(((1, 2), (0, 1, 1, 2, 0)), carried, net=TURNER, state=state, other=other, places=places)
        other, places = with_tank(TURNER, "r", 1)
        self.gives(((1, 2), (0, 1, 1, 0, 2)), carried, net=TURNER, state=state, other=other, places=places)
        other, places = without_switch(TURNER, 0)
        self.gives(((2,), (0, 1, 1, 0)), carried, net=TURNER, state=state, other=other, places=places)
        other, places = without_switch(TURNER, 1)
        self.gives(((1,), (0, 1, 1, 0)), carried, net=TURNER, state=state, other=other, places=places)

    def test_new_switches_read(self):
        state = ((1, 2), (0, 1, 1, 0))
        for kind, gate, position in (
            ("one", "a", 1), ("zero", "a", 0), ("one", "q", 0), ("zero", "q", 1), ("one", "low", 0), ("zero", "low", 1), ("tie", None, 1),
        ):
            other, places = with_switch(TURNER, kind, 1, gate, "q", "low")
            self.gives(((1, 2, position), (0, 1, 1, 0)), carried, net=TURNER, state=state, other=other, places=places)
            self.gives(((1, 1, position), (0, 1, 1, 0)), carried, net=TURNER, state=state, other=other, places=(0, -1))
        other, places = with_switch(with_feed(TURNER, "b")[0], "zero", 1, "b", "q", "low")
        self.gives(((1, 2, 2), (0, 1, 1, 2, 0)), carried, net=TURNER, state=state, other=other, places=(0, 1))

    def test_kinds_and_gates_must_be_the_same(self):
        net = (("low", "high", "a", "b"), (("q", 1),), (("one", 1, 2, 0, 4), ("zero", 1, 3, 0, 4), ("tie", 1, -1, 0, 4)))
        state = ((2, 2, 1), (0, 1, 0, 0, 1))
        self.gives(((2, 2, 1), state[1]), carried, net=net, state=state, other=net, places=(0, 1, 2))
        self.gives(((0, 1, 1), state[1]), carried, net=net, state=state, other=net, places=(1, 0, 2))
        self.gives(((0, 1, 1), state[1]), carried, net=net, state=state, other=net, places=(2, 0, 1))
        self.gives(((0, 2, 1), state[1]), carried, net=net, state=state, other=net, places=(-1, 1, -1))
        other = (("low", "high", "b", "a"), (("q", 3),), (("one", 6, 3, 1, 0), ("one", 1, 2, 4, 0), ("zero", 1, 2, 1, 4)))
        held = (0, 1, 0, 0, 1)
        self.gives(((2, 0, 2), held), carried, net=net, state=state, other=other, places=(0, 2, -1))
        self.gives(((0, 0, 1), held), carried, net=net, state=state, other=other, places=(1, 0, 2))

    def test_another_kind_with_the_same_gate(self):
        ends = (0, 3)
        switches = {kind: (kind, 1, 2) + ends for kind in ("one", "zero")}
        switches["tie"] = ("tie", 1, -1) + ends
        nets = {kind: (("low", "high", "a"), (("q", 1),), (switch,)) for kind, switch in switches.items()}
        for value in (0, 1, 2):
            held = (0, 1, value, 0)
            readings = {"one": value, "zero": (1, 0, 2)[value], "tie": 1}
            for kind, position in (("one", 0), ("one", 1), ("one", 2), ("zero", 0), ("zero", 1), ("zero", 2), ("tie", 1)):
                for other in nets:
                    self.gives(
                        ((position if other == kind else readings[other],), held),
                        carried, net=nets[kind], state=((position,), held), other=nets[other], places=(0,),
                    )

    def test_nodes_are_known_by_names(self):
        net = (("low", "high", "a"), (("p", 1), ("q", 1)), ())
        other = (("low", "high", "q"), (("a", 1), ("r", 1), ("p", 2)), ())
        self.gives(((), (0, 1, 1, 0, 2, 2)), carried, net=net, state=((), (0, 1, 0, 2, 1)), other=other, places=())
        self.gives(((), (0, 1)), carried, net=net, state=((), (0, 1, 0, 2, 1)), other=BARE, places=())
        self.gives(((), (0, 1, 2, 2, 2)), carried, net=BARE, state=((), (0, 1)), other=net, places=())
        self.gives(((1, 1), (0, 1, 2)), carried, net=LADDER, state=((1, 1), (0, 1, 0, 0)), other=FIGHT, places=(-1, 1))

    def test_wrong_arguments(self):
        good = {"net": TURNER, "state": ((1, 2), (0, 1, 1, 0)), "other": CROSS, "places": (-1, 5)}
        states = list(JUNK) + [((0, 2), (0, 1, 1, 0)), ((1, 2), (0, 1, 1)), [(1, 2), (0, 1, 1, 0)], ((1, 2), (1, 1, 1, 0))]
        nets = junk_but(is_net) + [CROSS[:2], list(CROSS), (CROSS[0][1:],) + CROSS[1:], CROSS[:2] + (((),),)]
        places = junk_but(lambda thing: thing in ((0, 1), (1, 0), (1, 2), (2, 4)) and isinstance(thing, tuple)) + [
            (-1,), (-1, -1, -1), (0, 6), (-2, 0), (3, 3), (0, True), (0, None), [0, 1], (0, "1"), (0, (1,)),
        ]
        self.refuses(carried, good, {"state": states, "other": nets, "places": places}, ("net",))
        self.same(is_state(CROSS, carried(**good)), True)
