"""Points 40 and 41: roads, and how they show may_0 and may_1."""

import itertools
import random

from everyohm.roads import is_road, judge_road, road_nodes, road_ranks, road_to
from everyohm.tables import may
from bads import bads
from helpers import BARE, CROSS, FIGHT, JUNK, LADDER, NETS, STORE, TURNER, Case, junk_but
from nets import likely_net, some_net, some_state
from slowranks import nodes_of, own_ranks, roads_of, slow_firm, slow_may

ALONG = {"net": LADDER, "positions": (1, 1), "held": (0, 1, 0, 0)}


def walks(net, most):
    """Return all tuples of switches up to a length, roads or not."""
    places = range(len(net[2]))
    return [row for many in range(most + 1) for row in itertools.product(places, repeat=many)]


def slow_walk(net, root, switches):
    """Return the nodes and ranks of a road, or None if it is none."""
    nodes, ranks = [root], [own_ranks(net)[root]]
    for place in switches:
        _, strength, _, left, right = net[2][place]
        if nodes[-1] not in (left, right):
            return None
        nodes.append(right if nodes[-1] == left else left)
        ranks.append(min(ranks[-1], 4 + strength))
        if nodes[-1] < len(net[0]):
            return None
    return tuple(nodes), tuple(ranks)


class RoadKindsTest(Case):
    def test_examples(self):
        self.gives(True, is_road, net=LADDER, node=3, thing=(1, (0, 1, 1, 1)))
        self.gives(False, is_road, net=LADDER, node=1, thing=(2, (0,)))
        self.gives(True, is_road, net=LADDER, node=1, thing=(1, ()))
        self.gives((1, 2, 3), road_nodes, net=LADDER, root=1, switches=(0, 1))
        self.gives((11, 6, 5), road_ranks, net=LADDER, root=1, switches=(0, 1))

    def test_edges(self):
        self.gives(True, is_road, net=BARE, node=0, thing=(0, ()))
        self.gives(False, is_road, net=BARE, node=0, thing=(1, ()))
        self.gives(False, is_road, net=FIGHT, node=2, thing=(0, (0, 1)))
        self.gives(False, is_road, net=FIGHT, node=2, thing=(0, (1,)))
        self.gives(False, is_road, net=FIGHT, node=0, thing=(2, (0,)))
        feeds_only = (("low", "high"), (), (("tie", 1, -1, 0, 1),))
        self.gives(False, is_road, net=feeds_only, node=1, thing=(0, (0,)))
        self.gives((2,), road_nodes, net=FIGHT, root=2, switches=())
        self.gives((1,), road_ranks, net=FIGHT, root=2, switches=())
        self.gives((11,), road_ranks, net=FIGHT, root=1, switches=())
        self.gives((1, 2, 3, 2, 3), road_nodes, net=LADDER, root=1, switches=(0, 1, 1, 1))
        self.gives((2, 2, 2), road_ranks, net=LADDER, root=3, switches=(1, 1))

    def test_each_way_not_to_be_a_road(self):
        for thing in (
            [1, (0, 1)], (1, [0, 1]), (1,), (1, (0, 1), ()), (True, (0, 1)), (1, (False, True)), (1, (0, True)), (1, (0, 2)),
            (1, (0, -1)), (1, (0, "1")), (1, (0, (1,))), (-1, (0, 1)), (4, ()), ("high", (0, 1)), (1, 1), (1, None), (None, ()),
            (1, (1,)), (0, (0, 1)), (1, (1, 0)), (1, (0,)), (1, (0, 0)), (1, (0, 1, 1)), (2, (0, 0, 1)), ((), ()), (1, (0, 0, 0, 1)),
        ):
            self.gives(False, is_road, net=LADDER, node=3, thing=thing)
        for thing in JUNK:
            self.gives(False, is_road, net=LADDER, node=3, thing=thing)
        self.gives(True, is_road, net=LADDER, node=3, thing=(1, (0,) + (1,) * 4999))
        self.gives(False, is_road, net=LADDER, node=3, thing=(1, (0,) + (1,) * 4998))

    def test_all_walks(self):
        source = random.Random(40)
        for net in NETS + tuple(some_net(source, 2, 3, 4) for _ in range(25)):
            for root in nodes_of(net):
                for switches in walks(net, 3):
                    walk = slow_walk(net, root, switches)
                    for node in nodes_of(net):
                        self.same(is_road(net, node, (root, switches)), walk is not None and walk[0][-1] == node)
                    if walk is None:
                        self.fails("NotUsable", ("switches", -1), road_nodes, net, root, switches)
                        self.fails("NotUsable", ("switches", -1), road_ranks, net, root, switches)
                    else:
                        self.same(road_nodes(net, root, switches), walk[0])
                        self.same(road_ranks(net, root, switches), walk[1])

    def test_wrong_arguments(self):
        for net in (LADDER, CROSS, TURNER):
            bad = bads(net)
            self.refuses(is_road, {"net": net, "node": 1, "thing": None}, bad, ("net", "thing"))
            bad["switches"] = junk_but(lambda thing: thing in ((), (1,)) and isinstance(thing, tuple)) + [
                [], (len(net[2]),), (-1,), (True,), (0, 0), ("0",), 0, (0, 0, 0),
            ]
            self.refuses(road_nodes, {"net": net, "root": 0, "switches": ()}, bad, ("net",))
            self.refuses(road_ranks, {"net": net, "root": 0, "switches": ()}, bad, ("net",))


class ShownRoadsTest(Case):
    def test_examples(self):
        self.gives((1, (0, 1)), road_to, **ALONG, value=1, node=3)
        self.gives(False, judge_road, **ALONG, value=1, node=3, paper=(1, (0, 1, 1, 1)))
        self.gives(None, road_to, **ALONG, value=0, node=3)
        self.gives(True, judge_road, **ALONG, value=1, node=3, paper=(1, (0, 1)))

    def test_roads_there_and_back(self):
        source = random.Random(401)
        for _ in range(400):
            net = likely_net(source, 2, 5, 8)
            positions, held = some_state(source, net)
            for value in (0, 1):
                numbers = may(net, positions, held, value)
                for node in nodes_of(net):
                    road = road_to(net, positions, held, value, node)
                    if numbers[node] == 0:
                        self.assertIsNone(road)
                        continue
                    nodes = road_nodes(net, *road)
                    self.same(is_road(net, node, road), True)
                    self.same(judge_road(net, positions, held, value, node, road), True)
                    self.assertEqual(len(set(nodes)), len(nodes))
                    self.same(road_ranks(net, *road), tuple(numbers[one] for one in nodes))

    def test_judge_against_the_definition(self):
        source = random.Random(402)
        taken = 0
        for _ in range(25):
            net = likely_net(source, 1, 3, 4)
            positions, held = some_state(source, net)
            for value in (0, 1):
                numbers = slow_may(net, positions, held, value)
                for root in nodes_of(net):
                    for switches in walks(net, 3):
                        walk = slow_walk(net, root, switches)
                        fits = walk is not None and held[root] in (value, 2) and all(positions[place] for place in switches)
                        fits = fits and all(numbers[node] == rank for node, rank in zip(*walk))
                        for node in nodes_of(net):
                            wanted = fits and walk[0][-1] == node
                            taken += wanted
                            self.same(judge_road(net, positions, held, value, node, (root, switches)), wanted)
        self.assertGreater(taken, 100)

    def test_nodes_may_come_twice(self):
        # Over a strong tie, and back, the rank stays.
        net = (("low", "high"), (("p", 1), ("q", 1)), (("tie", 1, -1, 1, 2), ("tie", 6, -1, 2, 3)))
        question = {"net": net, "positions": (1, 1), "held": (0, 1, 0, 0), "value": 1}
        self.gives(True, judge_road, **question, node=2, paper=(1, (0, 1, 1)))
        self.gives(True, judge_road, **question, node=3, paper=(1, (0, 1, 1, 1)))

    def test_each_way_not_to_be_taken(self):
        for value, node, paper in (
            (1, 3, (1, (0,))), (1, 3, (2, (1,))), (0, 3, (2, (1,))), (1, 3, (3, ())), (0, 3, (3, ())), (1, 2, (1, ())),
            (0, 2, (1, (0,))), (0, 0, (1, ())), (1, 0, (0, ())), (0, 1, (1, ())), (1, 3, [1, (0, 1)]), (1, 3, (True, (0, 1))),
            (1, 3, (1, (0, True))), (1, 3, (1, [0, 1])), (1, 3, (0, (0, 1))),
        ):
            self.gives(False, judge_road, **ALONG, value=value, node=node, paper=paper)
        self.gives(True, judge_road, **ALONG, value=0, node=0, paper=(0, ()))
        self.gives(True, judge_road, **ALONG, value=1, node=1, paper=(1, ()))
        # The switch is open, the root is held otherwise, the road is not clear.
        self.gives(False, judge_road, net=STORE, positions=(0,), held=(0, 1, 1, 1, 0), value=1, node=4, paper=(2, (0,)))
        self.gives(True, judge_road, net=STORE, positions=(2,), held=(0, 1, 1, 1, 0), value=1, node=4, paper=(2, (0,)))
        self.gives(True, judge_road, net=STORE, positions=(1,), held=(0, 1, 2, 1, 0), value=1, node=4, paper=(2, (0,)))
        self.gives(False, judge_road, net=STORE, positions=(1,), held=(0, 1, 0, 1, 0), value=1, node=4, paper=(2, (0,)))
        self.gives(False, judge_road, net=STORE, positions=(1,), held=(0, 1, 0, 1, 1), value=1, node=4, paper=(4, ()))
        self.gives(True, judge_road, net=STORE, positions=(2,), held=(0, 1, 0, 1, 1), value=1, node=4, paper=(4, ()))
        # q could be driven more weakly by p's own charge than by high over p.
        self.gives(False, judge_road, net=LADDER, positions=(1, 1), held=(0, 1, 1, 0), value=1, node=2, paper=(2, ()))

    def test_any_value_as_paper(self):
        for thing in JUNK + ((1, (0, 1), 2), ((1, (0, 1)),), (1, (0, 10 ** 300)), (1, (None,)), (1, ((0,), 1)), [[[[]]]]):
            for node in (1, 3):
                self.gives(False, judge_road, **ALONG, value=1, node=node, paper=thing)

    def test_wherever_there_is_a_number_there_is_a_road(self):
        source = random.Random(403)
        for _ in range(60):
            net = likely_net(source, 1, 3, 5)
            positions, held = some_state(source, net)
            firms = slow_firm(net, positions)
            likely = [place for place, position in enumerate(positions) if position]
            for value in (0, 1):
                numbers = may(net, positions, held, value)
                good = {
                    nodes[-1] for root, _, nodes, ranks in roads_of(net, likely)
                    if held[root] in (value, 2) and all(
                        rank == numbers[node] >= firms[node] for node, rank in zip(nodes, ranks))
                }
                self.assertEqual(good, {node for node in nodes_of(net) if numbers[node]})

    def test_wrong_arguments(self):
        for net in (LADDER, CROSS, TURNER):
            positions, held = some_state(random.Random(2), net)
            good = {"net": net, "positions": positions, "held": held, "value": 0, "node": 1}
            self.refuses(road_to, good, bads(net), ("net",))
            self.refuses(judge_road, dict(good, paper=(1, ())), bads(net), ("net", "paper"))
