"""Points 44 and 45: parts, meshes, volts by neighbours."""

import itertools
import random
from fractions import Fraction

from everyohm.meshes import mesh_of, volt_by, without_node
from everyohm.parts import parts_of
from everyohm.volts import volts_of
from bads import NO_QUOTIENTS, bad_numbers, bads
from helpers import BARE, CROSS, FIGHT, JUNK, LADDER, NETS, TURNER, Case
from nets import likely_net, some_quotient, some_state, some_world
from slowranks import nodes_of, pair_of, slow_parts, slow_volts

BIG = 10 ** 120
MESH = ((0, 3, (16, 1)), (1, 3, (8, 1)))


def some_flows(source, net):
    """Return flows of the net, some of them nought."""
    return tuple((0, 1) if source.random() < 0.3 else some_quotient(source, 1, 9) for _ in net[2])


def some_mesh(source, numbers):
    pairs = [pair for pair in itertools.combinations(numbers, 2) if source.random() < 0.6]
    return tuple(pair + (some_quotient(source, 1, 5),) for pair in pairs)


def slow_without(mesh, node):
    flows = {(one, other): Fraction(*flow) for one, other, flow in mesh}
    near = {a + b - node: flow for (a, b), flow in flows.items() if node in (a, b)}
    whole = sum(near.values())
    for one, other in itertools.combinations(sorted(near), 2):
        flows[one, other] = flows.get((one, other), 0) + near[one] * near[other] / whole
    return tuple(sorted(pair + (pair_of(flow),) for pair, flow in flows.items() if node not in pair))


class PartsTest(Case):
    def test_example(self):
        self.gives((((2,), (1,)),), parts_of, net=FIGHT, flows=((0, 1), (4, 1)))

    def test_edges(self):
        self.gives((), parts_of, net=BARE, flows=())
        self.gives((((2,), ()),), parts_of, net=FIGHT, flows=((0, 1), (0, 1)))
        self.gives((((2,), (0, 1)),), parts_of, net=FIGHT, flows=((1, BIG), (BIG, 1)))
        self.gives((((2, 3), (1,)),), parts_of, net=LADDER, flows=((1, 1), (1, 1)))
        self.gives((((2,), (1,)), ((3,), ())), parts_of, net=LADDER, flows=((1, 1), (0, 1)))
        self.gives((((2, 3), ()),), parts_of, net=LADDER, flows=((0, 1), (1, 1)))
        # Feeds join nothing, and switches between them are in no part.
        net = (("low", "high", "a"), (("p", 1), ("q", 1)), (("tie", 1, -1, 2, 3), ("tie", 1, -1, 4, 2), ("tie", 1, -1, 0, 2)))
        self.gives((((3,), (2,)), ((4,), (2,))), parts_of, net=net, flows=((1, 1),) * 3)

    def test_random_nets(self):
        source = random.Random(44)
        for _ in range(400):
            net = likely_net(source, 3, 6, 9)
            flows = some_flows(source, net)
            self.gives(slow_parts(net, flows), parts_of, net=net, flows=flows)

    def test_wrong_arguments(self):
        for net in (TURNER, CROSS, FIGHT):
            self.refuses(parts_of, {"net": net, "flows": ((1, 1),) * len(net[2])}, bads(net), ("net",))


class MeshTest(Case):
    def test_examples(self):
        self.gives(MESH, mesh_of, net=TURNER, flows=((8, 1), (16, 1)))
        self.gives(((0, 1, (16, 3)),), without_node, mesh=MESH, node=3)
        self.gives((1, 3), volt_by, mesh=MESH, node=3, volts=((0, (0, 1)), (1, (1, 1))))

    def test_mesh_of(self):
        self.gives((), mesh_of, net=BARE, flows=())
        self.gives((), mesh_of, net=FIGHT, flows=((0, 1), (0, 1)))
        self.gives(((1, 2, (1, BIG)),), mesh_of, net=FIGHT, flows=((0, 1), (1, BIG)))
        # Switches between the same two nodes, in whatever sequence, feeds too.
        net = (("low", "high"), (("p", 1),), (
            ("one", 1, 0, 2, 1), ("tie", 3, -1, 1, 2), ("zero", 1, 2, 1, 0), ("tie", 1, -1, 0, 1), ("tie", 6, -1, 0, 2)))
        self.gives(
            ((0, 1, (5, 6)), (1, 2, (3, 4))), mesh_of, net=net, flows=((1, 2), (1, 4), (1, 2), (1, 3), (0, 1)))

    def test_random_meshes_of_nets(self):
        source = random.Random(45)
        for _ in range(300):
            net = likely_net(source, 3, 5, 9)
            flows = some_flows(source, net)
            sums = {}
            for (_, _, _, left, right), flow in zip(net[2], flows):
                pair = tuple(sorted((left, right)))
                sums[pair] = sums.get(pair, 0) + Fraction(*flow)
            wanted = tuple(sorted(pair + (pair_of(flow),) for pair, flow in sums.items() if flow))
            self.gives(wanted, mesh_of, net=net, flows=flows)

    def test_without_node(self):
        self.gives((), without_node, mesh=(), node=0)
        self.gives(MESH, without_node, mesh=MESH, node=2)
        self.gives(MESH, without_node, mesh=MESH, node=10 ** 300)
        self.gives((), without_node, mesh=((4, 9, (1, 3)),), node=9)
        self.gives(((1, 3, (8, 1)),), without_node, mesh=MESH, node=0)
        star = ((0, 5, (1, 1)), (1, 5, (2, 1)), (5, 7, (3, 1)), (0, 1, (1, 2)))
        self.gives(
            ((0, 1, (5, 6)), (0, 7, (1, 2)), (1, 7, (1, 1))),
            without_node, mesh=tuple(sorted(star)), node=5)

    def test_random_meshes(self):
        source = random.Random(451)
        for _ in range(300):
            numbers = sorted(source.sample((0, 1, 2, 3, 5, 8, 100, 10 ** 20), source.randint(0, 6)))
            mesh = some_mesh(source, numbers)
            node = source.choice(numbers + [4])
            self.gives(slow_without(mesh, node), without_node, mesh=mesh, node=node)
            near = sorted({a + b - node for a, b, _ in mesh if node in (a, b)})
            volts = [(number, some_quotient(source, 0, 1)) for number in near + [10 ** 30, 6]]
            source.shuffle(volts)
            if not near:
                self.fails("NotUsable", ("node", -1), volt_by, mesh, node, tuple(volts))
                continue
            weights = {a + b - node: Fraction(*flow) for a, b, flow in mesh if node in (a, b)}
            mean = sum(weights[number] * Fraction(*dict(volts)[number]) for number in near) / sum(weights.values())
            self.gives(pair_of(mean), volt_by, mesh=mesh, node=node, volts=tuple(volts))

    def test_great_numbers(self):
        source = random.Random(452)
        great = lambda: pair_of(Fraction(source.randint(1, BIG), source.randint(1, BIG)))
        mesh = tuple((at, 20, great()) for at in range(12))
        self.gives(slow_without(mesh, 20), without_node, mesh=mesh, node=20)
        volts = tuple((at, pair_of(Fraction(source.randint(0, BIG), BIG))) for at in range(12))
        mean = sum(Fraction(*flow) * Fraction(*volt) for (_, _, flow), (_, volt) in zip(mesh, volts))
        mean = mean / sum(Fraction(*flow) for _, _, flow in mesh)
        self.gives(pair_of(mean), volt_by, mesh=mesh, node=20, volts=volts)

    def test_volts_balance_without_a_node(self):
        """Point 51: without tank n the same volts balance at the part's other tanks."""
        source = random.Random(51)
        tried = 0
        for _ in range(150):
            net = likely_net(source, 2, 5, 8)
            positions, held = some_state(source, net)
            _, flows, rooms, charges = some_world(source, net, positions, held, 2)
            volts = volts_of(net, flows, rooms, charges)
            self.same(volts, tuple(pair_of(volt) for volt in slow_volts(net, flows, rooms, charges)))
            mesh = mesh_of(net, flows)
            for tanks, feeds in parts_of(net, flows):
                for tank in tanks if feeds else ():
                    others = tuple((node, volt) for node, volt in enumerate(volts) if node != tank)
                    self.same(volt_by(mesh, tank, others), volts[tank])
                    less = without_node(mesh, tank)
                    for other in tanks:
                        if other != tank:
                            self.same(volt_by(less, other, others), volts[other])
                            tried += 1
        self.assertGreater(tried, 100)

    def test_wrong_arguments(self):
        bad = {"node": bad_numbers(0), "volts": [[], ((0, (0, 1)),)]}
        self.refuses(without_node, {"mesh": MESH, "node": 3}, bad, ("mesh",))
        good = ((0, (0, 1)), (1, (1, 1)))
        bad["node"] += [2, 4, 10 ** 300]
        bad["volts"] = list(JUNK) + [
            list(good), good[:1], good[1:], good + good[:1], good + ((0, (1, 1)),), good + ((2,),), good + ((2, (0, 1), 0),),
            good + ([2, (0, 1)],), good + ((True, (0, 1)),), ((False, (0, 1)), good[1]), good + ((-1, (0, 1)),), good + ((2, (3, 2)),),
            good + ((2, (-1, 2)),), good + (("2", (0, 1)),), good + (None,), good + (((2, 3), (0, 1)),), (good,),
        ] + [((0, (0, 1)), (1, thing)) for thing in NO_QUOTIENTS]
        self.refuses(volt_by, {"mesh": MESH, "node": 3, "volts": good}, bad, ("mesh",))
        for net in (TURNER, CROSS):
            self.refuses(mesh_of, {"net": net, "flows": ((1, 1),) * len(net[2])}, bads(net), ("net",))
