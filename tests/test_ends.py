"""Point 49, and what follows from it: end worlds, least and greatest volts."""

import itertools
import random
from fractions import Fraction

from everyohm.ends import end_world, end_worlds, ends_at
from everyohm.responses import response
from everyohm.volts import volts_of
from everyohm.worldfits import world_fault
from everyohm.worldkinds import leak_of, spill_of
from bads import bads
from helpers import BARE, CROSS, FIGHT, STORE, TURNER, Case
from nets import likely_net, some_state, some_world
from slowranks import pair_of, slow_volts, tanks_of


def slow_ends(net, positions, held, base):
    """Return the list of all end worlds."""
    flows = [
        ((0,), (base ** (2 * switch[1]), base ** (2 * switch[1] + 1)), (0, base ** (2 * switch[1] + 1)))[position]
        for switch, position in zip(net[2], positions)
    ]
    rooms = [(base ** (2 * size), base ** (2 * size + 1)) for _, size in net[1]]
    whole = lambda row: tuple((one, 1) for one in row)
    charges = {whole(value if one == 2 else one for one in held) for value in (0, 1)}
    return [
        (base, whole(some_flows), whole(some_rooms), some_charges)
        for some_flows in itertools.product(*flows) for some_rooms in itertools.product(*rooms) for some_charges in charges
    ]


def few_ends(source, feeds=2, tanks=3, switches=5, most=256):
    """Return a net, positions and held values with at most so many end worlds."""
    while True:
        net = likely_net(source, feeds, tanks, switches)
        positions, held = some_state(source, net)
        if 2 ** (len(net[1]) + sum(position > 0 for position in positions) + (2 in held)) <= most:
            return net, positions, held


class EndsTest(Case):
    def test_examples(self):
        self.same(len(list(end_worlds(TURNER, (1, 2), (0, 1, 2, 2), 2))), 16)
        self.gives(((1, 9), (1, 1)), ends_at, net=TURNER, positions=(1, 2), held=(0, 1, 2, 2), tank=3, base=2)

    def test_edges(self):
        self.same(list(end_worlds(BARE, (), (0, 1), 2)), [(2, (), (), ((0, 1), (1, 1)))])
        self.same(list(end_worlds(STORE, (0,), (0, 1, 1, 0, 0), 2)), [
            (2, ((0, 1),), ((room, 1),), ((0, 1), (1, 1), (1, 1), (0, 1), (0, 1))) for room in (4, 8)])
        feeds_only = (("low", "high", "a"), (), (("tie", 1, -1, 0, 2),))
        self.same(sorted(end_worlds(feeds_only, (1,), (0, 1, 2), 3)), [
            (3, ((flow, 1),), (), ((0, 1), (1, 1), (charge, 1))) for flow in (9, 27) for charge in (0, 1)])

    def test_each_once(self):
        source = random.Random(49)
        for _ in range(60):
            net, positions, held = few_ends(source)
            base = source.choice((2, 3, 10 ** 9))
            worlds = list(end_worlds(net, positions, held, base))
            self.assertEqual(sorted(worlds), sorted(slow_ends(net, positions, held, base)))
            self.assertEqual(len(set(worlds)), len(worlds))
            for world in worlds:
                self.same(world_fault(net, positions, held, world, (0, 1)), None)
            self.same(list(end_worlds(base=base, held=held, positions=positions, net=net)), worlds)

    def test_all_512(self):
        net = (("low", "high"), (("p", 1), ("q", 1)), (("tie", 1, -1, 1, 2), ("one", 1, 2, 2, 3), ("one", 2, 2, 3, 0)) * 2)
        worlds = list(end_worlds(net, (1, 2, 2) * 2, (0, 1, 2, 2), 2))
        self.assertEqual((len(worlds), len(set(worlds))), (512, 512))
        self.same(ends_at(net, (1, 2, 2) * 2, (0, 1, 2, 2), 2, 2), ((5, 13), (1, 1)))

    def test_least_and_greatest(self):
        source = random.Random(491)
        for _ in range(60):
            net, positions, held = few_ends(source, most=128)
            base = source.choice((2, 3, 8))
            worlds = slow_ends(net, positions, held, base)
            rows = [slow_volts(net, *world[1:]) for world in worlds]
            for tank in tanks_of(net):
                least, most = min(row[tank] for row in rows), max(row[tank] for row in rows)
                question = {"net": net, "positions": positions, "held": held, "tank": tank, "base": base}
                self.gives((pair_of(least), pair_of(most)), ends_at, **question)
                for value, volt in ((0, least), (1, most)):
                    world = end_world(**question, value=value)
                    self.same(end_world(*question.values(), value), world)
                    self.assertIn(world, worlds)
                    self.same(volts_of(net, *world[1:])[tank], pair_of(volt))

    def test_a_great_part(self):
        # Eight tanks in a row, each switch open but one: 512 end worlds.
        switches = (("tie", 1, -1, 1, 2),) + tuple(("one", 1, 2, at + 2, at + 3) for at in range(7))
        net = (("low", "high"), tuple((f"t{at}", 1) for at in range(8)), switches)
        self.gives(((1, 1), (1, 1)), ends_at, net=net, positions=(1,) + (0,) * 7, held=(0, 1) + (0,) * 8, tank=2, base=10 ** 9)
        self.gives(((0, 1), (0, 1)), ends_at, net=net, positions=(1,) + (0,) * 7, held=(0, 1) + (0,) * 8, tank=9, base=2)

    def test_other_worlds_lie_between(self):
        """G4: the ends are least and greatest over all worlds that fit."""
        source = random.Random(492)
        for _ in range(80):
            net, positions, held = few_ends(source, most=128)
            base = source.choice((2, 3, 20))
            ends = {tank: ends_at(net, positions, held, tank, base) for tank in tanks_of(net)}
            for _ in range(20):
                world = some_world(source, net, positions, held, base)
                volts = volts_of(net, *world[1:])
                for tank, (least, most) in ends.items():
                    self.assertTrue(Fraction(*least) <= Fraction(*volts[tank]) <= Fraction(*most))

    def test_when_ends_read(self):
        """Point 51: with a base of at least 2, 3 * leak and 3 * spill the ends tell the response."""
        source = random.Random(493)
        seen = set()
        for _ in range(150):
            net, positions, held = few_ends(source, most=128)
            base = max(2, 3 * leak_of(net), 3 * spill_of(net))
            told = response(net, positions, held)
            for tank in tanks_of(net):
                least, most = (Fraction(*volt) for volt in ends_at(net, positions, held, tank, base))
                self.assertEqual(told[tank] == 1, least >= Fraction(3, 4))
                self.assertEqual(told[tank] == 0, most <= Fraction(1, 4))
                seen.add(told[tank])
        self.assertEqual(seen, {0, 1, 2})

    def test_errors_come_with_the_first_result(self):
        for arguments, word in (
            ((FIGHT, (1,), (0, 1, 2), 2), "positions"), ((FIGHT, (1, 1), (0, 1), 1), "held"), ((FIGHT, (1, 1), (0, 1, 2), 1), "base"),
        ):
            worlds = end_worlds(*arguments)
            self.fails("NotUsable", (word, -1), lambda: next(worlds))

    def test_wrong_arguments(self):
        for net in (TURNER, CROSS, FIGHT):
            positions, held = some_state(random.Random(6), net)
            good = {"net": net, "positions": positions, "held": held, "base": 2}
            first = lambda net, positions, held, base: next(end_worlds(net, positions, held, base))
            self.refuses(first, good, bads(net), ("net",))
            good = {"net": net, "positions": positions, "held": held, "tank": len(net[0]), "base": 2}
            self.refuses(ends_at, good, bads(net), ("net",))
            self.refuses(end_world, dict(good, value=0), bads(net), ("net",))
