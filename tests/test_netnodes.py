"""Points 27, 28 and 34: nodes, groups and ranks."""

import itertools
import random

from everyohm.groups import cone_of, group_of, groups_of
from everyohm.kinds import is_flat_name
from everyohm.netnodes import gate_tanks, name_of, node_of, size_of, switches_at, switches_by
from everyohm.ranks import rank_of, switch_rank
from helpers import BARE, CROSS, DOUBLE, FIGHT, NETS, PAIR, STORE, TURNER, Case, junk_but
from nets import some_net
from slowranks import slow_lots


def numbers_but(least, many):
    """Return junk that is no number from least to the one below many."""
    fits = lambda thing: isinstance(thing, int) and not isinstance(thing, bool) and least <= thing < many
    return junk_but(fits) + [least - 1, many, many + 1, True, False, str(least), (least,)]


def names(net):
    return list(net[0]) + [name for name, _ in net[1]]


class NetNodesTest(Case):
    def test_cross(self):
        self.gives("low", name_of, net=CROSS, node=0)
        self.gives("b", name_of, net=CROSS, node=3)
        self.gives("r.s[3]", name_of, net=CROSS, node=6)
        self.gives(6, node_of, net=CROSS, name="r.s[3]")
        self.gives(1, node_of, net=CROSS, name="high")
        self.gives(4, size_of, net=CROSS, tank=5)
        self.gives((0, 3, 5), switches_at, net=CROSS, node=4)
        self.gives((), switches_at, net=CROSS, node=7)
        self.gives((3, 4), switches_at, net=CROSS, node=3)
        self.gives((3, 5), switches_by, net=CROSS, node=4)
        self.gives((), switches_by, net=CROSS, node=0)
        self.gives((4, 5, 6), gate_tanks, net=CROSS)
        self.gives((), gate_tanks, net=TURNER)
        self.gives((3,), gate_tanks, net=DOUBLE)
        self.gives((), gate_tanks, net=BARE)

    def test_all_nodes(self):
        for net in NETS:
            many = len(names(net))
            for node, name in enumerate(names(net)):
                self.gives(name, name_of, net=net, node=node)
                self.gives(node, node_of, net=net, name=name)
                at = tuple(k for k, switch in enumerate(net[2]) if node in (switch[3], switch[4]))
                by = tuple(k for k, switch in enumerate(net[2]) if node == switch[2])
                self.gives(at, switches_at, net=net, node=node)
                self.gives(by, switches_by, net=net, node=node)
                rank = 11 if node < len(net[0]) else net[1][node - len(net[0])][1]
                self.gives(rank, rank_of, net=net, node=node)
            for tank, (_, size) in enumerate(net[1], len(net[0])):
                self.gives(size, size_of, net=net, tank=tank)
            tanks = range(len(net[0]), many)
            wanted = tuple(tank for tank in tanks if any(switch[2] == tank for switch in net[2]))
            self.gives(wanted, gate_tanks, net=net)
            for place, switch in enumerate(net[2]):
                self.gives(4 + switch[1], switch_rank, net=net, switch=place)

    def test_rank_examples(self):
        self.same((rank_of(TURNER, 3), rank_of(TURNER, 0), switch_rank(TURNER, 1)), (1, 11, 6))
        self.same((switch_rank(CROSS, 0), switch_rank(CROSS, 1)), (10, 5))

    def test_no_such_name(self):
        for name in ("b", "q[0]", "lo", "a.b", "p" * 16, "low.a"):
            self.fails("NoSuchName", (name,), node_of, TURNER, name)
            self.fails("NoSuchName", (name,), node_of, net=TURNER, name=name)

    def test_wrong_arguments(self):
        for net in (TURNER, STORE, CROSS, BARE):
            many = len(names(net))
            nodes, tanks = numbers_but(0, many), numbers_but(len(net[0]), many)
            for function in (name_of, switches_at, switches_by, rank_of):
                self.refuses(function, {"net": net, "node": 0}, {"node": nodes}, passed=("net",))
            for function in (size_of, group_of):
                good = {"net": net, "tank": many - 1}
                self.refuses(function, good, {"tank": tanks + list(range(len(net[0])))}, passed=("net",))
            switches = numbers_but(0, len(net[2]))
            self.refuses(switch_rank, {"net": net, "switch": 0}, {"switch": switches}, passed=("net",))
            bad = junk_but(is_flat_name) + ["x", "A", "a.x", "a[01]", "a" * 17, ("q",)]
            self.refuses(node_of, {"net": net, "name": "low"}, {"name": bad}, passed=("net",))


def slow_groups(net):
    return slow_lots(net, [switch[3:] for switch in net[2]])


def is_closed(net, groups):
    """Return whether each gate tank of a switch with an end in the groups is in one."""
    tanks = {tank for group in groups for tank in group}
    return all(
        gate < len(net[0]) or gate in tanks
        for _, _, gate, left, right in net[2] if left in tanks or right in tanks
    )


class GroupsTest(Case):
    def test_example(self):
        self.same((groups_of(PAIR), cone_of(PAIR, (3,))), (((2,), (3,)), (2, 3)))

    def test_small_nets(self):
        self.gives((), groups_of, net=BARE)
        self.gives((), cone_of, net=BARE, watched=())
        self.gives(((4, 5), (6,), (7,)), groups_of, net=CROSS)
        self.gives((4, 5), group_of, net=CROSS, tank=5)
        self.gives((7,), group_of, net=CROSS, tank=7)
        self.gives((4, 5), cone_of, net=CROSS, watched=(5,))
        self.gives((4, 5, 6), cone_of, net=CROSS, watched=(6,))
        self.gives((4, 5, 6, 7), cone_of, net=CROSS, watched=(6, 7))
        self.gives((7,), cone_of, net=CROSS, watched=(7,))
        self.gives((), cone_of, net=CROSS, watched=())
        self.gives((2,), cone_of, net=PAIR, watched=(2,))
        self.gives((2,), cone_of, net=FIGHT, watched=(2,))

    def test_random_nets(self):
        source = random.Random(28)
        for _ in range(150):
            net = some_net(source, 3, 6, 8)
            groups = slow_groups(net)
            self.gives(groups, groups_of, net=net)
            for group in groups:
                for tank in group:
                    self.gives(group, group_of, net=net, tank=tank)
            self.check_cones(net, groups)

    def check_cones(self, net, groups):
        closed = [
            sum(some, ()) for many in range(len(groups) + 1) for some in itertools.combinations(groups, many)
            if is_closed(net, some)
        ]
        tanks = sum(groups, ())
        for many in range(3):
            for watched in itertools.combinations(sorted(tanks), many):
                wanted = min((cone for cone in closed if set(watched) <= set(cone)), key=len)
                self.same(cone_of(net, watched), tuple(sorted(wanted)))

    def test_wrong_arguments(self):
        bad = junk_but(lambda thing: thing == ()) + [
            (3,), (4, 4), (5, 4), (8,), (4, 8), (4, True), [4], [], ("q",), (None,), (-1, 4), 4, (2, 4), (4, "5"),
        ]
        self.refuses(cone_of, {"net": CROSS, "watched": (4, 7)}, {"watched": bad}, passed=("net",))
