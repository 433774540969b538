"""Points 35, 36, 37 and 41: floods, firm ranks, may_0, may_1, responses."""

import itertools
import random

from everyohm.floods import flood
from everyohm.responses import response
from everyohm.tables import firm, may
from bads import bads, is_int, near_row
from helpers import BARE, CROSS, DOUBLE, FIGHT, LADDER, NETS, STORE, TURNER, Case, junk_but
from nets import likely_net, some_net, some_state
from slowranks import nodes_of, own_ranks, roads_of, slow_firm, slow_flood, slow_may, slow_response, tanks_of

TWO = (("low", "high"), (("p", 1), ("q", 2)), (("tie", 3, -1, 2, 3),))
FEEDS_ONLY = (("low", "high", "a"), (("p", 3),), (("one", 6, 2, 0, 2), ("tie", 5, -1, 1, 0)))


def some_flood(source, net):
    """Return arguments of flood."""
    usable = tuple(place for place in range(len(net[2])) if source.random() < 0.8)
    starts = tuple(source.choice((0, 0, 1, 2, 4, 5, 6, 8, 11, source.randint(0, 11))) for _ in nodes_of(net))
    floors = tuple(source.choice((0, 0, 0, 1, 2, 5, 6, source.randint(0, 12))) for _ in nodes_of(net))
    return usable, starts, floors


class FloodTest(Case):
    def test_examples(self):
        for usable, starts, floors, wanted in (
            ((0, 1), (0, 11, 0, 2), (0, 0, 0, 0), (0, 11, 6, 5)),
            ((0, 1), (0, 11, 0, 2), (0, 0, 7, 0), (0, 11, 0, 2)),
            ((1,), (0, 11, 0, 2), (12, 12, 0, 0), (0, 0, 2, 2)),
        ):
            self.gives(wanted, flood, net=LADDER, usable=usable, starts=starts, floors=floors)

    def test_edges(self):
        self.gives((0, 0), flood, net=BARE, usable=(), starts=(0, 0), floors=(0, 0))
        self.gives((7, 0), flood, net=BARE, usable=(), starts=(7, 11), floors=(7, 12))
        self.gives((11, 11, 0), flood, net=FIGHT, usable=(), starts=(11, 11, 0), floors=(0, 0, 0))
        self.gives((3, 4, 5), flood, net=FIGHT, usable=(0, 1), starts=(3, 4, 5), floors=(0, 0, 0))
        self.gives((3, 4, 4), flood, net=FIGHT, usable=(0, 1), starts=(3, 4, 1), floors=(0, 0, 4))
        self.gives((3, 4, 0), flood, net=FIGHT, usable=(0, 1), starts=(3, 4, 1), floors=(0, 0, 5))
        # A strong switch between feeds gives neither of them a number.
        self.gives((0, 0, 11, 3), flood, net=FEEDS_ONLY, usable=(0, 1), starts=(0, 0, 11, 3), floors=(0, 0, 0, 0))
        # A tank whose floor is above its start gets a number from another root.
        self.gives((0, 0, 2, 2), flood, net=LADDER, usable=(0, 1), starts=(0, 0, 1, 2), floors=(0, 0, 2, 2))
        # Behind the weak tie the rank stays small, also over a strong one.
        chain = (("low", "high"), (("p", 1), ("q", 1), ("r", 1)), (
            ("tie", 6, -1, 1, 2), ("tie", 1, -1, 2, 3), ("tie", 6, -1, 3, 4), ("tie", 3, -1, 4, 0)))
        self.gives((0, 11, 10, 5, 5), flood, net=chain, usable=(0, 1, 2, 3), starts=(0, 11, 0, 0, 0), floors=(0,) * 5)
        self.gives((11, 0, 5, 7, 7), flood, net=chain, usable=(0, 1, 2, 3), starts=(11, 0, 0, 0, 0), floors=(0,) * 5)
        self.gives((11, 0, 0, 7, 7), flood, net=chain, usable=(0, 1, 2, 3), starts=(11, 0, 0, 0, 0), floors=(0, 0, 6, 7, 7))

    def test_gates_have_no_effect(self):
        net = (("low", "high", "a"), (("p", 1), ("q", 1)), (("one", 4, 2, 1, 3), ("zero", 2, 3, 4, 3), ("one", 3, 4, 0, 4)))
        self.gives((0, 11, 0, 8, 6), flood, net=net, usable=(0, 1, 2), starts=(0, 11, 0, 0, 0), floors=(0,) * 5)

    def test_against_all_roads(self):
        source = random.Random(35)
        for _ in range(1500):
            net = some_net(source, 2, 5, 8)
            arguments = some_flood(source, net)
            self.same(flood(net, *arguments), slow_flood(net, *arguments))

    def test_all_small_nets(self):
        ends = [pair for pair in itertools.combinations(range(4), 2) if pair != (0, 1)]
        for pairs in itertools.combinations(ends, 3):
            for strengths in ((1, 2, 1), (2, 1, 1), (1, 1, 2), (2, 2, 1)):
                switches = tuple(("tie", strength, -1) + pair for strength, pair in zip(strengths, pairs))
                net = (("low", "high"), (("p", 1), ("q", 2)), switches)
                for starts in ((11, 11, 1, 2), (0, 11, 0, 2), (11, 0, 1, 0), (5, 4, 3, 2), (0, 0, 0, 6)):
                    for floors in ((0, 0, 0, 0), (0, 0, 6, 2), (12, 0, 0, 5), (0, 0, 1, 3)):
                        self.same(flood(net, (0, 1, 2), starts, floors), slow_flood(net, (0, 1, 2), starts, floors))

    def test_a_number_is_that_of_a_road_along_it(self):
        source = random.Random(41)
        for _ in range(200):
            net = some_net(source, 2, 4, 6)
            usable, starts, floors = some_flood(source, net)
            numbers = flood(net, usable, starts, floors)
            roads = roads_of(net, usable)
            for node, number in enumerate(numbers):
                fits = [
                    root for root, switches, nodes, _ in roads
                    if nodes[-1] == node and starts[root] > 0 and all(
                        min([starts[root]] + [4 + net[2][place][1] for place in switches[:at]]) == numbers[one]
                        for at, one in enumerate(nodes))
                ]
                self.assertEqual(number > 0, fits != [])

    def test_wrong_arguments(self):
        for net in (TURNER, CROSS, STORE):
            many, switches = len(list(nodes_of(net))), len(net[2])
            rows = lambda most: junk_but(
                lambda thing: isinstance(thing, tuple) and len(thing) == many and all(
                    is_int(one) and 0 <= one <= most for one in thing)
            ) + near_row((1,) * many, (-1, most + 1, None, True, "1", (1,)))
            good = {"net": net, "usable": (0,), "starts": (0,) * many, "floors": (12,) * many}
            bad = {"usable": bads(net)["usable"] + [(switches,)], "starts": rows(11), "floors": rows(12)}
            self.refuses(flood, good, bad, ("net",))


class TablesTest(Case):
    def test_examples(self):
        self.gives((11, 11, 11, 6), firm, net=TURNER, positions=(1, 1))
        self.gives((11, 11, 11, 5), firm, net=TURNER, positions=(1, 2))
        self.gives((11, 0, 11, 6), may, net=TURNER, positions=(1, 2), held=(0, 1, 2, 2), value=0)
        self.gives((0, 11, 11, 5), may, net=TURNER, positions=(1, 2), held=(0, 1, 2, 2), value=1)
        # What stands with the examples at the head of the stages.
        self.gives((11, 0, 0, 6), may, net=TURNER, positions=(1, 1), held=(0, 1, 1, 1), value=0)
        self.gives((0, 11, 11, 0), may, net=TURNER, positions=(1, 1), held=(0, 1, 1, 1), value=1)
        self.gives((11, 0, 5), may, net=FIGHT, positions=(1, 1), held=(0, 1, 0), value=0)
        self.gives((0, 11, 5), may, net=FIGHT, positions=(1, 1), held=(0, 1, 0), value=1)

    def test_edges(self):
        self.gives((11, 11), firm, net=BARE, positions=())
        self.gives((11, 0), may, net=BARE, positions=(), held=(0, 1), value=0)
        self.gives((11, 11, 11, 3), firm, net=FEEDS_ONLY, positions=(1, 1))
        self.gives((11, 0, 11, 3), may, net=FEEDS_ONLY, positions=(2, 1), held=(0, 1, 2, 2), value=0)
        self.gives((0, 11, 11, 3), may, net=FEEDS_ONLY, positions=(2, 1), held=(0, 1, 2, 2), value=1)
        self.gives((11, 11, 11, 11, 1), firm, net=STORE, positions=(0,))
        self.gives((11, 11, 11, 11, 5), firm, net=STORE, positions=(1,))
        self.gives((11, 11, 11, 11, 1), firm, net=STORE, positions=(2,))
        self.gives((11, 0, 11, 11, 5), may, net=STORE, positions=(2,), held=(0, 1, 2, 2, 1), value=0)
        # A closed road hides the tank's own charge, an open switch shows it.
        self.gives((11, 0, 11, 11, 5), may, net=STORE, positions=(1,), held=(0, 1, 0, 2, 1), value=0)
        self.gives((0, 11, 0, 11, 0), may, net=STORE, positions=(1,), held=(0, 1, 0, 2, 1), value=1)
        self.gives((0, 11, 0, 11, 1), may, net=STORE, positions=(0,), held=(0, 1, 0, 2, 1), value=1)

    def test_against_the_definitions(self):
        source = random.Random(36)
        for _ in range(500):
            net = likely_net(source, 2, 4, 6)
            positions, held = some_state(source, net)
            self.same(firm(net, positions), slow_firm(net, positions))
            for value in (0, 1):
                self.same(may(net, positions, held, value), slow_may(net, positions, held, value))
            self.same(response(net, positions, held), slow_response(net, positions, held))

    def test_they_are_floods(self):
        source = random.Random(411)
        for _ in range(300):
            net = some_net(source, 3, 6, 10)
            positions, held = some_state(source, net)
            ranks = tuple(own_ranks(net))
            closed = tuple(place for place, position in enumerate(positions) if position == 1)
            likely = tuple(place for place, position in enumerate(positions) if position)
            firms = flood(net, closed, ranks, (0,) * len(ranks))
            self.same(firm(net, positions), firms)
            for value in (0, 1):
                starts = tuple(rank if one in (value, 2) else 0 for rank, one in zip(ranks, held))
                self.same(may(net, positions, held, value), flood(net, likely, starts, firms))

    def test_great_nets(self):
        source = random.Random(12)
        for _ in range(5):
            net = some_net(source, 10, 5, 60)
            tanks = tuple((f"t{at}", source.randint(1, 4)) for at in range(24))
            net = (net[0], tanks, tuple(
                (kind, strength, gate, source.randrange(len(net[0]) + 12), len(net[0]) + 12 + source.randrange(12))
                for kind, strength, gate, _, _ in net[2]))
            positions, held = some_state(source, net)
            starts, floors = tuple(own_ranks(net)), (0,) * len(own_ranks(net))
            closed = [place for place, position in enumerate(positions) if position == 1]
            self.same(firm(net, positions), slow_flood(net, closed, starts, floors))

    def test_wrong_arguments(self):
        for net in (TURNER, CROSS, FIGHT):
            positions = (1,) * len(net[2])
            held = (0, 1) + (2,) * (len(net[0]) + len(net[1]) - 2)
            bad = bads(net)
            self.refuses(firm, {"net": net, "positions": positions}, bad, ("net",))
            self.refuses(may, {"net": net, "positions": positions, "held": held, "value": 1}, bad, ("net",))
            self.refuses(response, {"net": net, "positions": positions, "held": held}, bad, ("net",))


class ResponseTest(Case):
    def test_examples(self):
        self.gives((0, 1, 1, 0), response, net=TURNER, positions=(1, 1), held=(0, 1, 1, 1))
        self.gives((0, 1, 1, 0, 0), response, net=STORE, positions=(0,), held=(0, 1, 1, 0, 0))
        self.gives((0, 1, 1, 0, 2), response, net=STORE, positions=(2,), held=(0, 1, 1, 0, 0))
        self.gives((0, 1, 1, 1), response, net=TWO, positions=(1,), held=(0, 1, 0, 1))

    def test_at_the_head_of_the_stages(self):
        for held in (0, 1, 2):
            self.gives((0, 1, 1, 0), response, net=TURNER, positions=(1, 1), held=(0, 1, 1, held))
            self.gives((0, 1, 2, 2), response, net=TURNER, positions=(1, 2), held=(0, 1, 2, held))
            self.gives((0, 1, 0, 1), response, net=TURNER, positions=(1, 0), held=(0, 1, 0, held))
            self.gives((0, 1, 2), response, net=FIGHT, positions=(1, 1), held=(0, 1, held))
            self.gives((0, 1, 0, 1, held), response, net=STORE, positions=(0,), held=(0, 1, 0, 1, held))
            self.gives((0, 1, held, 1, held), response, net=STORE, positions=(1,), held=(0, 1, held, 1, 2))

    def test_edges(self):
        self.gives((0, 1), response, net=BARE, positions=(), held=(0, 1))
        no_tanks = (("low", "high", "a"), (), (("tie", 6, -1, 0, 2),))
        for value in (0, 1, 2):
            self.gives((0, 1, value), response, net=no_tanks, positions=(1,), held=(0, 1, value))
            self.gives((0, 1, 2, value), response, net=FEEDS_ONLY, positions=(1, 1), held=(0, 1, 2, value))
            no_switches = (DOUBLE[0], DOUBLE[1], ())
            self.gives((0, 1, value, 1, value), response, net=no_switches, positions=(), held=(0, 1, value, 1, value))
        lone = (("low", "high"), (("p", 1), ("q", 4)), (("one", 6, 3, 1, 2),))
        for value in (0, 1, 2):
            self.gives((0, 1, value, value), response, net=lone, positions=(0,), held=(0, 1, value, value))
            self.gives((0, 1, 1, value), response, net=lone, positions=(1,), held=(0, 1, value, value))

    def test_ranks_at_their_bounds(self):
        # The weakest switch outdoes the greatest tank.
        net = (("low", "high"), (("p", 4),), (("tie", 1, -1, 1, 2),))
        self.gives((0, 1, 1), response, net=net, positions=(1,), held=(0, 1, 0))
        # Strength 6 over 5, and sizes 4 over 3.
        net = (("low", "high"), (("p", 1),), (("tie", 6, -1, 0, 2), ("tie", 5, -1, 1, 2)))
        self.gives((0, 1, 0), response, net=net, positions=(1, 1), held=(0, 1, 1))
        net = (("low", "high"), (("p", 4), ("q", 3)), (("tie", 1, -1, 2, 3),))
        self.gives((0, 1, 0, 0), response, net=net, positions=(1,), held=(0, 1, 0, 1))
        # A strong switch behind a weak one is no stronger than the weak one.
        net = (("low", "high"), (("p", 1), ("q", 1)), (("tie", 1, -1, 0, 2), ("tie", 6, -1, 2, 3), ("tie", 2, -1, 1, 3)))
        self.gives((0, 1, 1, 1), response, net=net, positions=(1, 1, 1), held=(0, 1, 0, 0))

    def test_tanks_that_nothing_reaches(self):
        source = random.Random(413)
        for _ in range(200):
            net = some_net(source, 2, 5, 6)
            positions, held = some_state(source, net)
            told, firms = response(net, positions, held), firm(net, positions)
            mays = [may(net, positions, held, value) for value in (0, 1)]
            for tank in tanks_of(net):
                at = [place for place, switch in enumerate(net[2]) if tank in switch[3:]]
                if all(positions[place] == 0 for place in at):
                    size = own_ranks(net)[tank]
                    self.assertEqual((told[tank], firms[tank]), (held[tank], size))
                    for value in (0, 1):
                        self.assertEqual(mays[value][tank], size if held[tank] in (value, 2) else 0)

    def test_known_nets(self):
        for net in NETS:
            for seed in range(20):
                positions, held = some_state(random.Random(seed), net)
                self.gives(slow_response(net, positions, held), response, net=net, positions=positions, held=held)
