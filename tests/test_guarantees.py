"""Point 11, G1 to G4: what always holds of responses and of worlds."""

import itertools
import random
from fractions import Fraction

from everyohm.ends import ends_at
from everyohm.groups import groups_of
from everyohm.responses import response
from everyohm.showing import two_worlds
from everyohm.tables import firm, may
from everyohm.values import is_above_all, joined_all
from everyohm.volts import volts_of
from everyohm.worldfits import world_fault
from everyohm.worldkinds import leak_of, spill_of
from helpers import FIGHT, Case
from nets import likely_net, some_state
from slowranks import all_known, roads_of, tanks_of


def stretched(source, values, most):
    """Return a dict that puts other values for these, the greater ones still greater."""
    return dict(zip(sorted(values), sorted(source.sample(range(1, most + 1), len(values)))))


def more_known(source, values, fixed):
    """Return the values with some 2 replaced by 0 or 1, but not at the fixed places."""
    return tuple(
        source.randrange(2) if value == 2 and at not in fixed and source.random() < 0.5 else value
        for at, value in enumerate(values))


def ceiling(top, bottom):
    return -(-top // bottom)


class ResponsesTest(Case):
    def test_g1_ranks(self):
        source = random.Random(1)
        for _ in range(300):
            net = likely_net(source, 2, 4, 6)
            positions, held = some_state(source, net)
            firms = firm(net, positions)
            mays = [may(net, positions, held, value) for value in (0, 1)]
            closed = [place for place, position in enumerate(positions) if position == 1]
            driven = {nodes[-1] for root, _, nodes, _ in roads_of(net, closed) if root < len(net[0])}
            for node, rank in enumerate(firms):
                numbers = [row[node] for row in mays]
                self.assertNotEqual(numbers, [0, 0])
                for number in numbers:
                    self.assertTrue(number == 0 or number >= rank)
            for tank, (_, size) in enumerate(net[1], len(net[0])):
                self.assertGreaterEqual(firms[tank], size)
                self.assertEqual(firms[tank] > 4, tank in driven)

    def test_g1_what_counts(self):
        source = random.Random(2)
        for _ in range(200):
            net = likely_net(source, 2, 5, 6)
            positions, held = some_state(source, net)
            told = response(net, positions, held)
            other_positions, other_held = some_state(source, net)
            for group in groups_of(net):
                mixed_positions = tuple(
                    one if set(switch[3:]) & set(group) else other
                    for switch, one, other in zip(net[2], positions, other_positions))
                mixed_held = tuple(
                    one if node < len(net[0]) or node in group else other
                    for node, (one, other) in enumerate(zip(held, other_held)))
                other = response(net, mixed_positions, mixed_held)
                self.same([other[tank] for tank in group], [told[tank] for tank in group])

    def test_g1_orders(self):
        source = random.Random(3)
        for _ in range(300):
            feeds, tanks, switches = net = likely_net(source, 2, 5, 7)
            positions, held = some_state(source, net)
            sizes = stretched(source, {size for _, size in tanks}, 4)
            strengths = stretched(source, {switch[1] for switch in switches}, 6)
            other = (
                feeds, tuple((name, sizes[size]) for name, size in tanks),
                tuple((switch[0], strengths[switch[1]]) + switch[2:] for switch in switches),
            )
            self.same(response(other, positions, held), response(net, positions, held))

    def test_g2_more_is_known(self):
        source = random.Random(4)
        for _ in range(600):
            net = likely_net(source, 2, 5, 7)
            positions, held = some_state(source, net)
            told = response(net, positions, held)
            known = response(net, more_known(source, positions, ()), more_known(source, held, (0, 1)))
            self.same(is_above_all(told, known), True)

    def test_g2_joined(self):
        source = random.Random(5)
        for _ in range(150):
            net = likely_net(source, 2, 3, 4)
            positions, held = some_state(source, net)
            rows = [
                response(net, row[:len(positions)], row[len(positions):]) for row in all_known(positions + held)
            ]
            wanted = rows[0]
            for row in rows:
                wanted = joined_all(wanted, row)
            self.same(response(net, positions, held), wanted)


class WorldsTest(Case):
    def test_g3(self):
        source = random.Random(6)
        seen = set()
        for _ in range(150):
            net = likely_net(source, 1, 3, 4)
            positions, held = some_state(source, net)
            part = source.choice((Fraction(1, 4), Fraction(1, 7), Fraction(1, 1000), Fraction(2, 9)))
            loss = max(leak_of(net), spill_of(net)) * (1 - part) / part
            base = max(2, ceiling(loss.numerator, loss.denominator))
            told = response(net, positions, held)
            for tank in tanks_of(net):
                least, most = (Fraction(*volt) for volt in ends_at(net, positions, held, tank, base))
                self.assertEqual(told[tank] == 0, most <= part)
                self.assertEqual(told[tank] == 1, least >= 1 - part)
                self.assertEqual(told[tank] == 2, least <= part and most >= 1 - part)
                seen.add(told[tank])
                if told[tank] == 2:
                    self.check_pair(net, positions, held, tank, base, part)
        self.assertEqual(seen, {0, 1, 2})

    def check_pair(self, net, positions, held, tank, base, part):
        for value, world in enumerate(two_worlds(net, positions, held, tank, base)):
            self.assertIsNone(world_fault(net, positions, held, world, (0, 1)))
            volt = Fraction(*volts_of(net, *world[1:])[tank])
            self.assertLessEqual(abs(volt - value), part)

    def test_g3_no_lesser_base_for_the_leak(self):
        for tanks, switches in ((1, 2), (1, 4), (2, 4), (2, 5), (3, 6), (3, 8)):
            small = min(tanks, switches // 2)
            row = (("tie", 2, -1, 1, 2),) + tuple(("tie", 2, -1, 1 + at, 2 + at) for at in range(1, small))
            leaks = (("tie", 1, -1, 0, 1 + small),) * (switches - small)
            net = (("low", "high"), tuple((f"t{at}", 1) for at in range(tanks)), row + leaks)
            held = (0, 1) + (1,) * tanks
            last = 1 + small
            self.assertEqual(response(net, (1,) * switches, held)[last], 1)
            base = 3 * leak_of(net)
            for fits, one in ((True, base), (True, base + 1), (False, base - 1)):
                flows = tuple((one ** (4 if switch[1] == 2 else 3), 1) for switch in net[2])
                world = (one, flows, ((one ** 2, 1),) * tanks, ((0, 1),) + ((1, 1),) * (1 + tanks))
                self.assertIsNone(world_fault(net, (1,) * switches, held, world, (0, 1)))
                self.assertEqual(Fraction(*volts_of(net, *world[1:])[last]) >= Fraction(3, 4), fits)

    def test_g3_no_lesser_base_for_the_spill(self):
        for tanks, switches in ((2, 1), (3, 2), (4, 3)):
            ties = tuple(("tie", 1, -1, 1 + at, 2 + at) for at in range(1, tanks))
            net = (("low", "high"), tuple((f"t{at}", 1) for at in range(tanks)), ties)
            held = (0, 1, 1) + (0,) * (tanks - 1)
            self.assertEqual(response(net, (1,) * switches, held)[2], 2)
            base = 3 * spill_of(net)
            for fits, one in ((True, base), (False, base - 1)):
                _, most = ends_at(net, (1,) * switches, held, 2, one)
                self.assertEqual(Fraction(*most) >= Fraction(3, 4), fits)

    def test_with_a_small_base_ends_tell_less(self):
        positions, held = (1, 1), (0, 1, 2)
        for base in (2, 3, 4, 9):
            self.same(ends_at(FIGHT, positions, held, 2, base), ((1, base + 1), (base, base + 1)))

    def test_all_small_states(self):
        """Each state of some small nets: the ends read what the response tells."""
        nets = (
            (("low", "high"), (("p", 1), ("q", 1)), (("one", 1, 0, 1, 2), ("one", 1, 0, 2, 3), ("one", 1, 0, 3, 0))),
            (("low", "high", "a"), (("p", 1), ("q", 2)), (("one", 1, 2, 2, 3), ("one", 2, 2, 3, 4))),
        )
        for net in nets:
            base = max(2, 3 * leak_of(net), 3 * spill_of(net))
            for positions in itertools.product((0, 1, 2), repeat=len(net[2])):
                for rest in itertools.product((0, 1, 2), repeat=len(net[0]) + len(net[1]) - 2):
                    held = (0, 1) + rest
                    told = response(net, positions, held)
                    for tank in tanks_of(net):
                        least, most = (Fraction(*volt) for volt in ends_at(net, positions, held, tank, base))
                        reads = 0 if most <= Fraction(1, 4) else 1 if least >= Fraction(3, 4) else 2
                        self.assertEqual(told[tank], reads)
