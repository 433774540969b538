"""Points 42 and 43: worlds, their bounds, and what they fit."""

import random

from everyohm.worldfits import world_fault
from everyohm.worldkinds import (
    flow_bounds, is_world, leak_of, need, room_bounds, slack_after, spill_of,
)
from bads import a_world, bad_numbers, bad_worlds, bads
from helpers import BARE, CROSS, FIGHT, JUNK, NETS, STORE, TURNER, Case
from nets import likely_net, some_state, some_world

BIG = 10 ** 120


def net_of(tanks, switches):
    """Return a net with so many tanks and switches."""
    ties = tuple(("tie", 1, -1, 0, 1) for _ in range(switches))
    return (("low", "high"), tuple((f"t{at}", 1) for at in range(tanks)), ties)


def with_part(row, at, part):
    return row[:at] + (part,) + row[at + 1:]


class WorldKindsTest(Case):
    def test_examples(self):
        self.gives((4, 8), flow_bounds, base=2, strength=1)
        self.same((leak_of(TURNER), need(TURNER, 1), slack_after(TURNER, 12, 0)), (1, 4, (1, 12)))

    def test_bounds(self):
        for base in (2, 3, 10, 10 ** 9, 10 ** 30):
            for order in range(1, 7):
                self.gives((base ** (2 * order), base ** (2 * order + 1)), flow_bounds, base=base, strength=order)
                if order <= 4:
                    self.gives((base ** (2 * order), base ** (2 * order + 1)), room_bounds, base=base, size=order)

    def test_leak_spill_need(self):
        for tanks in range(7):
            for switches in range(13):
                net = net_of(tanks, switches)
                small = min(tanks, switches // 2)
                leak, spill = small * (switches - small), max(0, min(tanks - 1, switches))
                self.gives(leak, leak_of, net=net)
                self.gives(spill, spill_of, net=net)
                for adrift in (0, 1, 2, 10 ** 6):
                    self.gives(max(2, 4 * (leak + adrift * spill)), need, net=net, adrift=adrift)
                    top = leak + adrift * spill
                    for base in (2, 12, 10 ** 9):
                        slack = slack_after(net, base, adrift)
                        self.assertEqual(slack[0] * base, top * slack[1])
                        self.same(slack_after(net=net, adrift=adrift, base=base), slack)
        self.gives((0, 1), slack_after, net=BARE, base=2, adrift=9)
        self.gives((1, 2), slack_after, net=FIGHT, base=2, adrift=7)

    def test_need_is_where_the_slack_is_a_quarter(self):
        for net in NETS:
            for adrift in (0, 1, 5):
                base = need(net, adrift)
                top, bottom = slack_after(net, base, adrift)
                self.assertLessEqual(4 * top, bottom)
                if base > 2:
                    self.same((top, bottom), (1, 4))

    def test_is_world(self):
        for net in NETS:
            self.gives(True, is_world, net=net, thing=a_world(net))
            for thing in bad_worlds(net):
                self.gives(False, is_world, net=net, thing=thing)
        world = (2, ((0, 1), (BIG, BIG - 1)), ((1, BIG),), ((1, 1), (0, 1), (BIG - 1, BIG), (1, BIG)))
        self.gives(True, is_world, net=TURNER, thing=world)
        self.gives(True, is_world, net=BARE, thing=(10 ** 9, (), (), ((1, 2), (1, 3))))
        self.gives(False, is_world, net=BARE, thing=(1, (), (), ((1, 2), (1, 3))))

    def test_wrong_arguments(self):
        bad = dict(bads(CROSS), strength=bad_numbers(1, 6), size=bad_numbers(1, 4))
        self.refuses(flow_bounds, {"base": 2, "strength": 1}, bad)
        self.refuses(room_bounds, {"base": 2, "size": 1}, bad)
        self.refuses(need, {"net": CROSS, "adrift": 0}, bad, ("net",))
        self.refuses(slack_after, {"net": CROSS, "base": 2, "adrift": 0}, bad, ("net",))


class WorldFitsTest(Case):
    def fault(self, wanted, world, positions=(1, 1), held=(0, 1, 1, 0), slack=(0, 1), net=TURNER):
        self.gives(wanted, world_fault, net=net, positions=positions, held=held, world=world, slack=slack)

    def test_example(self):
        world = (2, ((8, 1), (16, 1)), ((4, 1),), ((0, 1), (1, 1), (1, 1), (1, 5)))
        self.fault(("charge", 3), world)
        self.fault(None, world, slack=(1, 5))
        self.fault(("charge", 3), world, slack=(19, 100))

    def test_each_bound_of_flows(self):
        good = (3, ((9, 1), (81, 1)), ((9, 1),), ((0, 1), (1, 1), (1, 1), (0, 1)))
        self.fault(None, good)
        for flow, fits in (
            ((81, 1), True), ((81 * BIG - 1, BIG), False), ((81 * BIG + 1, BIG), True), ((243, 1), True),
            ((243 * BIG + 1, BIG), False), ((243 * BIG - 1, BIG), True), ((0, 1), False), ((244, 1), False), ((80, 1), False),
        ):
            self.fault(None if fits else ("flow", 1), with_part(good, 1, ((27, 1), flow)))
        for flow, fits in (
            ((0, 1), True), ((1, BIG), True), ((243, 1), True), ((243 * BIG + 1, BIG), False), ((81, 1), True), ((244, 1), False),
        ):
            self.fault(None if fits else ("flow", 1), with_part(good, 1, ((9, 1), flow)), positions=(1, 2))
        for flow, fits in (((0, 1), True), ((1, BIG), False), ((81, 1), False)):
            self.fault(None if fits else ("flow", 1), with_part(good, 1, ((9, 1), flow)), positions=(1, 0))
        for flow, fits in (((9, 1), True), ((27, 1), True), ((0, 1), False), ((28, 1), False), ((8, 1), False)):
            self.fault(None if fits else ("flow", 0), with_part(good, 1, (flow, (81, 1))))

    def test_each_bound_of_rooms(self):
        world = (2, ((4, 1),), None, ((0, 1), (1, 1), (0, 1), (1, 1), (1, 1)))
        for size in (1, 2, 3, 4):
            net = (STORE[0], (("s", size),), STORE[2])
            least, most = 4 ** size, 2 * 4 ** size
            for room, fits in (
                ((least, 1), True), ((least * BIG - 1, BIG), False), ((least * BIG + 1, BIG), True), ((most, 1), True),
                ((most * BIG + 1, BIG), False), ((most * BIG - 1, BIG), True), ((1, BIG), False), ((most + 1, 1), False),
            ):
                self.fault(None if fits else ("room", 0), with_part(world, 2, (room,)), (1,), (0, 1, 0, 1, 1), net=net)

    def test_each_bound_of_charges(self):
        world = (2, ((4, 1),), ((4, 1),), ((0, 1), (1, 1), (0, 1), (1, 1), (1, 2)))
        charge = lambda node, one: with_part(world, 3, with_part(world[3], node, one))
        for one, value, slack, fits in (
            ((0, 1), 0, (0, 1), True), ((1, BIG), 0, (0, 1), False), ((1, BIG), 0, (1, BIG), True), ((2, 7), 0, (2, 7), True),
            ((2 * BIG + 1, 7 * BIG), 0, (2, 7), False), ((1, 1), 0, (1, 1), True), ((1, 1), 0, (BIG, 1), True), ((1, 1), 0, (6, 7), False),
            ((1, 1), 1, (0, 1), True), ((BIG - 1, BIG), 1, (0, 1), False), ((BIG - 1, BIG), 1, (1, BIG), True), ((5, 7), 1, (2, 7), True),
            ((5 * BIG - 1, 7 * BIG), 1, (2, 7), False), ((0, 1), 1, (1, 1), True), ((0, 1), 1, (7, 3), True), ((0, 1), 1, (6, 7), False),
            ((0, 1), 2, (0, 1), True), ((1, 2), 2, (0, 1), True), ((1, 1), 2, (0, 1), True),
        ):
            self.fault(None if fits else ("charge", 4), charge(4, one), (1,), (0, 1, 0, 1, value), slack, STORE)
        # Feeds have no slack, however great it is.
        for node, one, value, fits in (
            (2, (0, 1), 0, True), (2, (1, BIG), 0, False), (2, (1, 1), 1, True), (2, (BIG - 1, BIG), 1, False), (2, (1, 3), 2, True),
            (0, (1, BIG), 0, False), (1, (1, 2), 0, False), (0, (1, 1), 0, False), (1, (0, 1), 0, False), (3, (0, 1), 0, False),
        ):
            held = (0, 1, value, 1, 2)
            for slack in ((0, 1), (1, 2), (5, 1)):
                self.fault(None if fits else ("charge", node), charge(node, one), (1,), held, slack, STORE)

    def test_which_fault_is_told(self):
        good = (2, ((4, 1), (4, 1)), ((4, 1),), ((0, 1), (1, 1), (0, 1)))
        bad_flows, bad_rooms, bad_charges = ((4, 1), (3, 1)), ((3, 1),), ((0, 1), (1, 1), (1, 2))
        told = lambda wanted, *world: self.fault(wanted, (2,) + world, (1, 1), (0, 1, 0), (0, 1), FIGHT)
        told(None, *good[1:])
        told(("flow", 1), bad_flows, bad_rooms, bad_charges)
        told(("flow", 0), ((9, 1), (9, 1)), good[2], bad_charges)
        told(("room", 0), good[1], bad_rooms, bad_charges)
        told(("charge", 2), good[1], good[2], bad_charges)
        told(("charge", 0), good[1], good[2], ((1, 2), (1, 2), (1, 2)))
        told(("charge", 1), good[1], good[2], ((0, 1), (1, 2), (1, 2)))

    def test_the_base_is_the_worlds_own(self):
        self.fault(("flow", 0), (3, ((4, 1), (4, 1)), ((4, 1),), ((0, 1), (1, 1), (0, 1))), (1, 1), (0, 1, 0), net=FIGHT)
        base = 10 ** 9
        flows = ((base ** 3, 1), (base ** 4, 1))
        world = (base, flows, ((base ** 3, 1),), ((0, 1), (1, 1), (1, 1), (0, 1)))
        self.fault(None, world)
        self.fault(("flow", 0), with_part(world, 1, ((base ** 3 + 1, 1), flows[1])))
        self.fault(("room", 0), with_part(world, 2, ((base ** 2 - 1, 1),)))

    def test_edges(self):
        self.fault(None, (2, (), (), ((0, 1), (1, 1))), (), (0, 1), net=BARE)
        self.fault(("charge", 0), (2, (), (), ((1, 1), (1, 1))), (), (0, 1), net=BARE)
        self.fault(("charge", 1), (2, (), (), ((0, 1), (1, 2))), (), (0, 1), net=BARE)

    def test_random_worlds_fit(self):
        source = random.Random(43)
        for _ in range(300):
            net = likely_net(source, 2, 4, 6)
            positions, held = some_state(source, net)
            world = some_world(source, net, positions, held, source.choice((2, 3, 100, 10 ** 9)))
            self.fault(None, world, positions, held, net=net)
            at = source.randrange(len(held))
            off = with_part(world[3], at, source.choice(((0, 1), (1, 1), (1, 2), (1, 7))))
            slack = source.choice(((0, 1), (1, 7), (1, 2), (6, 7), (2, 1)))
            near = at >= len(net[0]) and held[at] != 2 and abs(off[at][0] - held[at] * off[at][1]) * slack[1] <= slack[0] * off[at][1]
            fits = held[at] == 2 or off[at] == (held[at], 1) or near
            self.fault(None if fits else ("charge", at), with_part(world, 3, off), positions, held, slack, net)

    def test_wrong_arguments(self):
        for net in (TURNER, CROSS, FIGHT):
            positions, held = some_state(random.Random(3), net)
            good = {"net": net, "positions": positions, "held": held, "world": a_world(net), "slack": (0, 1)}
            self.refuses(world_fault, good, bads(net), ("net",))
        for thing in JUNK:
            self.fails("NotUsable", ("world", -1), world_fault, TURNER, (1, 1), (0, 1, 1, 0), thing, None)
