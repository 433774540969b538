"""Points 46, 47 and 51: the volts of worlds."""

import random
from fractions import Fraction

from everyohm.balances import are_volts
from everyohm.kinds import is_quotient
from everyohm.volts import volts_of
from bads import bads
from helpers import BARE, CROSS, FIGHT, LADDER, STORE, TURNER, Case
from nets import likely_net, some_quotient, some_state, some_world
from slowranks import pair_of, slow_parts, slow_volts, tanks_of

BIG = 10 ** 120
DRAWN = (((8, 1), (16, 1)), ((4, 1),), ((0, 1), (1, 1), (1, 1), (0, 1)))


def great_world(source, tanks, switches, feeds=4):
    """Return a net that is one part, and flows, rooms and charges with great tops and bottoms."""
    great = lambda: pair_of(Fraction(source.randint(1, BIG), source.randint(1, BIG)))
    below_one = lambda: pair_of(Fraction(source.randint(0, BIG), BIG + 1))
    rows = [(feeds + at, feeds + at - 1) for at in range(1, tanks)] + [(feeds, 0)]
    while len(rows) < switches:
        left, right = source.sample(range(feeds + tanks), 2)
        rows.append((left, right))
    names = ("low", "high") + tuple(f"f{at}" for at in range(feeds - 2))
    net = (names, tuple((f"t{at}", 1) for at in range(tanks)), tuple(("tie", 1, -1) + row for row in rows))
    flows = tuple(great() for _ in rows)
    return net, flows, tuple(great() for _ in range(tanks)), tuple(below_one() for _ in range(feeds + tanks))


class VoltsTest(Case):
    def both(self, net, flows, rooms, charges, volts):
        """Check the volts, and that nothing else is taken for them."""
        numbers = {"net": net, "flows": flows, "rooms": rooms, "charges": charges}
        self.gives(volts, volts_of, **numbers)
        self.gives(True, are_volts, **numbers, volts=volts)
        for at, (top, bottom) in enumerate(volts):
            for off in ((top * 10 ** 130 + bottom, bottom * 10 ** 130), (top * 3 + 1, bottom * 3 + 2), (0, 1), (1, 1)):
                other = pair_of(Fraction(*off))
                if other != (top, bottom) and other[0] <= other[1]:
                    self.gives(False, are_volts, **numbers, volts=volts[:at] + (other,) + volts[at + 1:])

    def test_example(self):
        self.both(TURNER, *DRAWN, ((0, 1), (1, 1), (1, 1), (1, 3)))

    def test_edges(self):
        self.both(BARE, (), (), ((1, 3), (1, 5)), ((1, 3), (1, 5)))
        self.both(TURNER, ((0, 1), (0, 1)), ((4, 1),), ((0, 1), (1, 1), (1, 2), (2, 7)), ((0, 1), (1, 1), (1, 2), (2, 7)))
        # A feed may have any charge; one feed alone gives its charge.
        self.both(TURNER, ((0, 1), (1, BIG)), ((4, 1),), ((1, 3), (0, 1), (1, 2), (1, 1)), ((1, 3), (0, 1), (1, 2), (1, 3)))
        # A part that no feed touches has the mean weighed by rooms.
        self.both(LADDER, ((0, 1), (1, BIG)), ((1, 1), (3, 1)), ((0, 1), (1, 1), (0, 1), (1, 1)),
                  ((0, 1), (1, 1), (3, 4), (3, 4)))
        self.both(LADDER, ((0, 1), (0, 1)), ((1, 1), (3, 1)), ((0, 1), (1, 1), (0, 1), (1, 1)),
                  ((0, 1), (1, 1), (0, 1), (1, 1)))
        self.both(LADDER, ((1, 1), (1, 1)), ((1, 1), (3, 1)), ((0, 1), (1, 2), (0, 1), (1, 1)),
                  ((0, 1), (1, 2), (1, 2), (1, 2)))
        # Switches between feeds change nothing.
        net = (("low", "high"), (("p", 1),), (("tie", 6, -1, 0, 1), ("tie", 1, -1, 2, 1)))
        self.both(net, ((BIG, 1), (1, 1)), ((1, 1),), ((0, 1), (1, 1), (0, 1)), ((0, 1), (1, 1), (1, 1)))
        # Switches side by side add up.
        net = (("low", "high"), (("p", 1),), (("tie", 1, -1, 0, 2), ("one", 1, 1, 2, 0), ("tie", 1, -1, 2, 1)))
        self.both(net, ((1, 2), (3, 2), (1, 1)), ((1, 1),), ((0, 1), (1, 1), (0, 1)), ((0, 1), (1, 1), (1, 3)))

    def test_a_bridge(self):
        net = (("low", "high"), (("p", 1), ("q", 1), ("r", 1)), (
            ("tie", 1, -1, 1, 2), ("tie", 1, -1, 1, 3), ("tie", 1, -1, 2, 3), ("tie", 1, -1, 2, 0), ("tie", 1, -1, 3, 0)))
        flows = ((1, 1), (2, 1), (1, 1), (2, 1), (1, 1))
        self.both(net, flows, ((1, 1),) * 3, ((0, 1), (1, 1), (1, 1), (1, 1), (1, 2)),
                  ((0, 1), (1, 1), (2, 5), (3, 5), (1, 2)))

    def test_random_worlds(self):
        source = random.Random(46)
        for _ in range(250):
            net = likely_net(source, 3, 5, 9)
            positions, held = some_state(source, net)
            _, flows, rooms, charges = some_world(source, net, positions, held, source.choice((2, 5, 10 ** 9)))
            volts = tuple(pair_of(volt) for volt in slow_volts(net, flows, rooms, charges))
            self.both(net, flows, rooms, charges, volts)

    def test_great_tops_and_bottoms(self):
        source = random.Random(461)
        for tanks, switches in ((1, 5), (3, 8), (8, 14)):
            net, flows, rooms, charges = great_world(source, tanks, switches)
            self.both(net, flows, rooms, charges, tuple(pair_of(volt) for volt in slow_volts(net, flows, rooms, charges)))

    def test_the_greatest_part(self):
        source = random.Random(462)
        net, flows, rooms, charges = great_world(source, 8, 60, feeds=12)
        volts = volts_of(net, flows, rooms, charges)
        self.assertTrue(all(is_quotient(volt) and 0 <= volt[0] <= volt[1] for volt in volts))
        self.gives(True, are_volts, net=net, flows=flows, rooms=rooms, charges=charges, volts=volts)
        self.check_sums(net, flows, volts)

    def check_sums(self, net, flows, volts):
        """Check the sums of point 7 themselves."""
        for tank in tanks_of(net):
            whole = 0
            for (_, _, _, left, right), flow in zip(net[2], flows):
                if tank in (left, right):
                    whole += Fraction(*flow) * (Fraction(*volts[left + right - tank]) - Fraction(*volts[tank]))
            self.assertEqual(whole, 0)

    def test_parts_with_many_tanks(self):
        # A row from high to low over 24 tanks; the volts are told beforehand.
        switches = tuple(("tie", 1, -1, at + 1, at + 2) for at in range(24)) + (("tie", 1, -1, 25, 0),)
        net = (("low", "high"), tuple((f"t{at}", 1) for at in range(24)), switches)
        flows, rooms, charges = ((7, 3),) * 25, ((1, 1),) * 24, ((0, 1), (1, 1)) + ((1, 2),) * 24
        volts = ((0, 1), (1, 1)) + tuple(pair_of(Fraction(24 - at, 25)) for at in range(24))
        numbers = {"net": net, "flows": flows, "rooms": rooms, "charges": charges}
        self.gives(True, are_volts, **numbers, volts=volts)
        for at in range(26):
            off = volts[:at] + ((1, 3),) + volts[at + 1:]
            self.gives(False, are_volts, **numbers, volts=off)
        self.gives(False, are_volts, **numbers, volts=charges)

    def test_consequences(self):
        """Point 51: what volts depend on, and how they go with one flow."""
        source = random.Random(511)
        for _ in range(150):
            net = likely_net(source, 2, 4, 7)
            positions, held = some_state(source, net)
            _, flows, rooms, charges = some_world(source, net, positions, held, 2)
            volts = volts_of(net, flows, rooms, charges)
            self.assertTrue(all(0 <= top <= bottom for top, bottom in volts))
            self.check_what_a_part_depends_on(source, net, flows, rooms, charges, volts)
            if net[2]:
                self.check_one_flow(source, net, flows, rooms, charges)

    def check_what_a_part_depends_on(self, source, net, flows, rooms, charges, volts):
        first = len(net[0])
        for tanks, feeds in slow_parts(net, flows):
            seen = set(tanks) | set(feeds)
            other_flows = tuple(
                flow if set(switch[3:]) & set(tanks) or not flow[0] else some_quotient(source, 1, 3)
                for switch, flow in zip(net[2], flows))
            other_rooms = tuple(
                room if first + at in tanks else some_quotient(source, 1, 9) for at, room in enumerate(rooms))
            other_charges = tuple(
                charge if node in seen else some_quotient(source, 0, 1) for node, charge in enumerate(charges))
            other = volts_of(net, other_flows, other_rooms, other_charges)
            self.same([other[tank] for tank in tanks], [volts[tank] for tank in tanks])

    def check_one_flow(self, source, net, flows, rooms, charges):
        at = source.randrange(len(flows))
        rows = [
            volts_of(net, flows[:at] + (flow,) + flows[at + 1:], rooms, charges)
            for flow in ((0, 1), (1, 9), (1, 1), (5, 2), (9, 1), (1000, 1))
        ]
        for node in range(len(charges)):
            column = [Fraction(*row[node]) for row in rows]
            grown = column[1:]
            ups = {(one < other) - (one > other) for one, other in zip(grown, grown[1:])}
            self.assertEqual(len(ups), 1)
            for middle, greater in zip(grown, grown[1:]):
                self.assertTrue(min(column[0], greater) <= middle <= max(column[0], greater))

    def test_wrong_arguments(self):
        for net in (TURNER, CROSS, FIGHT, STORE):
            many = len(net[0]) + len(net[1])
            good = {"net": net, "flows": ((1, 1),) * len(net[2]), "rooms": ((1, 1),) * len(net[1]), "charges": ((1, 1),) * many}
            self.refuses(volts_of, good, bads(net), ("net",))
            self.refuses(are_volts, dict(good, volts=((1, 1),) * many), bads(net), ("net",))
