"""Points 59, 60 and 61: readings, kinds of states, single raises and falls."""

import itertools
import random

from everyohm.falling import can_fall, fallen
from everyohm.raising import can_raise, raised
from everyohm.starts import is_even, is_known_state, is_resting, readings, unknown_start
from bads import bads
from helpers import BARE, CROSS, DOUBLE, FIGHT, JUNK, LADDER, NETS, PAIR, STORE, TURNER, Case
from nets import likely_net, some_state
from slowpapers import replaced
from slowranks import slow_response
from slowturns import aims, items_of, join, slow_readings

ODD_ITEMS = JUNK + (
    ("switch", -1), ("switch", 2), ("switch", True), ("switch", False), ("tank", True), ("tank", 2), ("tank", 4), ["tank", 3], ("tank",),
    ("tank", 3, 3), ("tank", "3"), ("tank", (3,)), ("tank", None), ("Tank", 3), ("feed", 2), ("", 3), (3, "tank"), (["tank"], 3),
    (("tank", 3),), (None, 3), (True, 3), ("tank", [3]), ("switch", 10 ** 300), ("tank", 0), ("switch", [0]),
)


def in_place(state, item, value):
    """Return the state with a value in the place of one item."""
    word, place = item
    positions, held = state
    return (replaced(positions, place, value), held) if word == "switch" else (positions, replaced(held, place, value))


class StartsTest(Case):
    def test_example(self):
        self.gives(((1, 2), (0, 1, 2, 2)), unknown_start, net=TURNER)

    def test_readings(self):
        for value, flipped in ((0, 1), (1, 0), (2, 2)):
            for net, wanted in (
                (TURNER, (1, value)), ((TURNER[0], TURNER[1], (("zero", 1, 2, 0, 3), ("tie", 1, -1, 0, 3))), (flipped, 1)),
                ((TURNER[0], TURNER[1], (("one", 1, 0, 0, 3), ("one", 1, 1, 0, 3), ("zero", 1, 0, 0, 3), ("zero", 1, 1, 0, 3))), (0, 1, 1, 0)),
                ((TURNER[0], TURNER[1], (("one", 1, 3, 0, 3), ("zero", 1, 3, 0, 2))), (1, 0)),
            ):
                self.gives(wanted, readings, net=net, held=(0, 1, value, 1))
        self.gives((), readings, net=BARE, held=(0, 1))
        source = random.Random(59)
        for _ in range(200):
            net = likely_net(source, 3, 4, 8)
            _, held = some_state(source, net)
            self.gives(slow_readings(net, held), readings, net=net, held=held)

    def test_unknown_start(self):
        for net in NETS:
            held = (0, 1) + (2,) * (len(net[0]) + len(net[1]) - 2)
            self.gives((slow_readings(net, held), held), unknown_start, net=net)
        self.gives(((), (0, 1)), unknown_start, net=BARE)
        gated = (("low", "high"), (("q", 1),), (("one", 1, 1, 0, 2), ("zero", 1, 1, 0, 2), ("one", 1, 2, 0, 2)))
        self.gives(((1, 0, 2), (0, 1, 2)), unknown_start, net=gated)

    def test_resting(self):
        self.gives(True, is_resting, net=TURNER, state=((1, 0), (0, 1, 0, 1)))
        self.gives(True, is_resting, net=TURNER, state=((1, 1), (0, 1, 1, 0)))
        self.gives(True, is_resting, net=TURNER, state=((1, 2), (0, 1, 2, 2)))
        self.gives(False, is_resting, net=TURNER, state=((1, 0), (0, 1, 1, 1)))
        self.gives(False, is_resting, net=TURNER, state=((1, 0), (0, 1, 0, 2)))
        self.gives(False, is_resting, net=TURNER, state=((1, 2), (0, 1, 0, 2)))
        self.gives(True, is_resting, net=BARE, state=((), (0, 1)))
        source = random.Random(591)
        seen = set()
        for _ in range(300):
            net = likely_net(source, 1, 2, 3)
            state = some_state(source, net)
            wanted = state[0] == slow_readings(net, state[1]) and state[1] == slow_response(net, *state)
            seen.add(wanted)
            self.gives(wanted, is_resting, net=net, state=state)
        self.assertEqual(seen, {True, False})

    def test_known_states(self):
        for wanted, net, state in (
            (True, BARE, ((), (0, 1))), (True, TURNER, ((1, 0), (0, 1, 2, 2))), (False, TURNER, ((1, 2), (0, 1, 1, 1))),
            (True, DOUBLE, ((1, 0, 1, 1), (0, 1, 2, 1, 2))), (False, DOUBLE, ((1, 0, 1, 1), (0, 1, 0, 2, 0))),
            (False, DOUBLE, ((1, 0, 1, 2), (0, 1, 0, 1, 0))), (True, FIGHT, ((1, 1), (0, 1, 2))), (False, PAIR, ((0,), (0, 1, 2, 0))),
            (True, PAIR, ((0,), (0, 1, 1, 2))), (False, STORE, ((2,), (0, 1, 0, 0, 0))), (True, STORE, ((1,), (0, 1, 2, 2, 2))),
        ):
            self.gives(wanted, is_known_state, net=net, state=state)

    def test_even(self):
        net = (("low", "high", "a"), (("q", 1),), (
            ("one", 1, 2, 0, 3), ("one", 2, 2, 1, 3), ("zero", 1, 2, 0, 3), ("one", 1, 3, 0, 3), ("tie", 1, -1, 0, 3), ("zero", 3, 2, 0, 1)))
        for positions in itertools.product((0, 1, 2), repeat=5):
            positions = positions[:4] + (1,) + positions[4:]
            wanted = positions[0] == positions[1] and positions[2] == positions[5]
            self.gives(wanted, is_even, net=net, state=(positions, (0, 1, 0, 0)))
        self.gives(True, is_even, net=BARE, state=((), (0, 1)))
        self.gives(True, is_even, net=FIGHT, state=((1, 1), (0, 1, 2)))

    def test_wrong_arguments(self):
        for net in (TURNER, CROSS, FIGHT, BARE):
            positions, held = some_state(random.Random(10), net)
            self.refuses(readings, {"net": net, "held": held}, bads(net), ("net",))
            for function in (is_resting, is_known_state, is_even):
                self.refuses(function, {"net": net, "state": (positions, held)}, bads(net), ("net",))


class SingleStepsTest(Case):
    def test_examples(self):
        self.gives(((1, 2), (0, 1, 1, 1)), raised, net=TURNER, state=((1, 0), (0, 1, 1, 1)), item=("switch", 1))
        self.gives((("switch", 1),), can_raise, net=TURNER, state=((1, 0), (0, 1, 1, 1)))

    def test_small_states(self):
        for state, up, down in (
            (((1, 0), (0, 1, 0, 1)), (), ()),
            (((1, 0), (0, 1, 1, 1)), (("switch", 1),), (("switch", 1),)),
            (((1, 1), (0, 1, 0, 1)), (("switch", 1), ("tank", 3)), (("switch", 1), ("tank", 3))),
            (((1, 2), (0, 1, 0, 1)), (("tank", 3),), (("switch", 1), ("tank", 3))),
            (((1, 2), (0, 1, 0, 2)), (), (("switch", 1),)),
            (((1, 1), (0, 1, 1, 2)), (), (("tank", 3),)),
            (((1, 0), (0, 1, 2, 2)), (("switch", 1),), (("switch", 1), ("tank", 3))),
        ):
            self.gives(up, can_raise, net=TURNER, state=state)
            self.gives(down, can_fall, net=TURNER, state=state)
        self.gives((), can_raise, net=BARE, state=((), (0, 1)))
        self.gives((), can_fall, net=BARE, state=((), (0, 1)))

    def test_all_items(self):
        source = random.Random(60)
        for _ in range(300):
            net = likely_net(source, 2, 3, 5)
            state = some_state(source, net)
            rows = aims(net, state)
            up = tuple(item for item in items_of(net) if join(*rows[item]) != rows[item][0])
            down = tuple(item for item in items_of(net) if rows[item][0] != rows[item][1])
            self.gives(up, can_raise, net=net, state=state)
            self.gives(down, can_fall, net=net, state=state)
            for item in items_of(net):
                if item in up:
                    self.gives(in_place(state, item, join(*rows[item])), raised, net=net, state=state, item=item)
                else:
                    self.fails("NotUsable", ("item", -1), raised, net, state, item)
                if item in down:
                    self.gives(in_place(state, item, rows[item][1]), fallen, net=net, state=state, item=item)
                else:
                    self.fails("NotUsable", ("item", -1), fallen, net, state, item)

    def test_odd_items(self):
        # Both the switch 1 and the tank 3 can be raised, and can fall.
        state = ((1, 1), (0, 1, 0, 1))
        for item in ODD_ITEMS:
            for function in (raised, fallen):
                self.fails("NotUsable", ("item", -1), function, TURNER, state, item)
                self.fails("NotUsable", ("item", -1), function, item=item, state=state, net=TURNER)
        self.gives(((1, 1), (0, 1, 0, 0)), fallen, net=TURNER, state=state, item=("tank", 3))
        self.gives(((1, 1), (0, 1, 0, 2)), raised, net=TURNER, state=state, item=("tank", 3))

    def test_wrong_arguments(self):
        for net in (TURNER, CROSS, LADDER):
            state = some_state(random.Random(11), net)
            bad = dict(bads(net), item=[None])
            for function in (can_raise, can_fall):
                self.refuses(function, {"net": net, "state": state}, bad, ("net",))
            for function in (raised, fallen):
                good = {"net": net, "state": state, "item": (can_raise(net, state) + can_fall(net, state))[0]}
                self.refuses(function, good, bad, ("net",))
