"""Point 48: worlds that show a value at a tank."""

import random
from fractions import Fraction

from everyohm.quotients import volt_reads
from everyohm.responses import response
from everyohm.showing import showing_world, two_worlds
from everyohm.tables import may
from everyohm.volts import volts_of
from everyohm.worldfits import world_fault
from everyohm.worldkinds import is_world, leak_of, need, spill_of
from bads import bads
from helpers import BARE, CROSS, FIGHT, LADDER, NETS, STORE, TURNER, Case
from nets import likely_net, some_state
from slowranks import tanks_of


def fight_of(pulls, others):
    """Return a net in which a road of many ties is pulled against by equal ones."""
    tanks = tuple((f"t{at}", 1) for at in range(pulls))
    road = (("tie", 2, -1, 1, 2),) + tuple(("tie", 2, -1, 2 + at, 3 + at) for at in range(pulls - 1))
    return (("low", "high"), tanks, road + (("tie", 2, -1, 0, 1 + pulls),) * others)


class ShowingTest(Case):
    def check(self, net, positions, held, value, tank, base, world):
        """Check that a world fits, and where its volt at the tank lies."""
        self.same(is_world(net, world), True)
        self.same(world[0], base)
        self.same(world_fault(net, positions, held, world, (0, 1)), None)
        volt = Fraction(*volts_of(net, *world[1:])[tank])
        self.assertLessEqual(abs(volt - value), Fraction(max(leak_of(net), spill_of(net)), base))

    def check_all(self, net, positions, held, base):
        """Check all questions about one state; return how many worlds there were."""
        worlds = 0
        told = response(net, positions, held)
        mays = [may(net, positions, held, value) for value in (0, 1)]
        for tank in tanks_of(net):
            for value in (0, 1):
                world = showing_world(net, positions, held, value, tank, base)
                self.assertEqual(world is None, mays[value][tank] == 0)
                if world is not None:
                    self.check(net, positions, held, value, tank, base, world)
                    worlds += 1
            pair = two_worlds(net, positions, held, tank, base)
            self.assertEqual(pair is None, told[tank] != 2)
            if pair is not None:
                self.assertEqual((type(pair), len(pair)), (tuple, 2))
                for value in (0, 1):
                    self.check(net, positions, held, value, tank, base, pair[value])
        return worlds

    def test_example(self):
        zero, one = two_worlds(FIGHT, (1, 1), (0, 1, 2), 2, 4)
        self.same(world_fault(FIGHT, (1, 1), (0, 1, 2), one, (0, 1)), None)
        self.same(world_fault(FIGHT, (1, 1), (0, 1, 2), zero, (0, 1)), None)
        volts = [volts_of(FIGHT, *world[1:])[2] for world in (zero, one)]
        self.same([volt_reads(volt) for volt in volts], [0, 1])
        self.check_all(FIGHT, (1, 1), (0, 1, 2), 4)

    def test_edges(self):
        self.gives(None, showing_world, net=TURNER, positions=(1, 1), held=(0, 1, 1, 1), value=1, tank=3, base=2)
        self.gives(None, two_worlds, net=TURNER, positions=(1, 1), held=(0, 1, 1, 1), tank=3, base=2)
        self.gives(None, two_worlds, net=STORE, positions=(0,), held=(0, 1, 2, 2, 1), tank=4, base=2)
        # A tank by itself shows what it holds exactly: leak and spill are nought.
        lone = (("low", "high"), (("p", 3),), ())
        for held in (0, 1, 2):
            self.check_all(lone, (), (0, 1, held), 2)
        self.check_all(STORE, (0,), (0, 1, 2, 2, 2), 2)
        # An unknown feed, and low and high by switches between feeds.
        net = (("low", "high", "a"), (("p", 1),), (("tie", 6, -1, 0, 1), ("tie", 6, -1, 2, 0), ("tie", 1, -1, 2, 3)))
        self.check_all(net, (1, 1, 1), (0, 1, 2, 0), 2)

    def test_random_nets(self):
        source = random.Random(48)
        worlds = 0
        for _ in range(400):
            net = likely_net(source, 2, 6, 9)
            positions, held = some_state(source, net)
            base = source.choice((2, 3, 5, need(net, 1), 97, 10 ** 9))
            worlds += self.check_all(net, positions, held, base)
        self.assertGreater(worlds, 500)

    def test_close_fights(self):
        for pulls in range(1, 9):
            for others in (1, 2, 5, 20):
                net = fight_of(pulls, others)
                many = len(net[2])
                held = (0, 1) + (2,) * pulls
                self.check_all(net, (1,) * many, held, need(net, 1) + 1)
                self.check_all(net, (1,) * many, held, 2)

    def test_charges_that_spill(self):
        # Equal tanks share their charges; one of them holds otherwise than all others.
        for many in range(2, 12):
            tanks = tuple((f"t{at}", 2) for at in range(many))
            net = (("low", "high"), tanks, tuple(("tie", 1, -1, 1 + at, 2 + at) for at in range(1, many)))
            for held in ((0, 1, 1) + (0,) * (many - 1), (0, 1, 0) + (1,) * (many - 1), (0, 1, 2) + (0,) * (many - 1)):
                self.assertEqual(response(net, (1,) * (many - 1), held)[2:], (2,) * many)
                for base in (2, 3, need(net, 1), 1000):
                    self.check_all(net, (1,) * (many - 1), held, base)

    def test_great_nets(self):
        source = random.Random(481)
        for _ in range(4):
            tanks = tuple((f"t{at}", source.randint(1, 2)) for at in range(24))
            switches = tuple(
                ("one", source.randint(1, 2), 0) + tuple(source.sample(range(30), 2)) for _ in range(60))
            net = (("low", "high", "a", "b", "c", "d"), tanks, switches)
            positions, held = some_state(source, net)
            self.check_all(net, positions, held, source.choice((2, 50, 10 ** 9)))

    def test_wrong_arguments(self):
        for net in (TURNER, CROSS, FIGHT, LADDER):
            positions, held = some_state(random.Random(4), net)
            good = {"net": net, "positions": positions, "held": held, "value": 1, "tank": len(net[0]), "base": 2}
            self.refuses(showing_world, good, bads(net), ("net",))
            del good["value"]
            self.refuses(two_worlds, good, bads(net), ("net",))
        self.fails("NotUsable", ("tank", -1), two_worlds, BARE, (), (0, 1), 1, 2)
        for net in NETS:
            self.check_all(net, *some_state(random.Random(5), net), 3)
