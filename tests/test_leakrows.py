"""Points 50 and 51: rows with leaks, the nets in which most is lost."""

from fractions import Fraction

from everyohm.ends import ends_at
from everyohm.leakrows import row_net, row_world
from everyohm.netkinds import is_net
from everyohm.quotients import volt_reads
from everyohm.responses import response
from everyohm.showing import showing_world
from everyohm.volts import volts_of
from everyohm.worldfits import world_fault
from everyohm.worldkinds import is_world, leak_of
from bads import bad_numbers
from helpers import Case
from slowranks import pair_of


class LeakRowsTest(Case):
    def test_example(self):
        self.same(row_net(2, 1)[2], (("tie", 2, -1, 1, 2), ("tie", 2, -1, 2, 3), ("tie", 1, -1, 0, 3)))

    def test_nets(self):
        self.gives((("low", "high"), (("t0", 1),), (("tie", 2, -1, 1, 2),)), row_net, many=1, leaks=0)
        self.gives(
            (("low", "high"), (("t0", 1), ("t1", 1), ("t2", 1)), (
                ("tie", 2, -1, 1, 2), ("tie", 2, -1, 2, 3), ("tie", 2, -1, 3, 4), ("tie", 1, -1, 0, 4), ("tie", 1, -1, 0, 4))),
            row_net, many=3, leaks=2)
        for many in (1, 2, 9, 24):
            for leaks in (0, 1, 36):
                net = row_net(many, leaks)
                self.same(is_net(net), True)
                self.assertEqual([name for name, _ in net[1]], [f"t{at}" for at in range(many)])
                self.assertEqual(len(net[2]), many + leaks)

    def test_worlds(self):
        self.gives(
            (2, ((16, 1), (16, 1), (8, 1)), ((4, 1), (4, 1)), ((0, 1), (1, 1), (1, 1), (1, 1))),
            row_world, many=2, leaks=1, base=2)
        self.gives((3, ((81, 1),), ((9, 1),), ((0, 1), (1, 1), (1, 1))), row_world, many=1, leaks=0, base=3)
        for many, leaks, base in ((1, 1, 2), (24, 36, 10 ** 9), (3, 5, 45), (2, 0, 7)):
            net, world = row_net(many, leaks), row_world(many, leaks, base)
            self.same(is_world(net, world), True)
            for rest in ((1,) * many, (2,) * many):
                self.same(world_fault(net, (1,) * len(net[2]), (0, 1) + rest, world, (0, 1)), None)

    def test_where_the_volt_reads(self):
        for many in range(1, 9):
            for leaks in range(0, 6):
                net = row_net(many, leaks)
                positions, held = (1,) * len(net[2]), (0, 1) + (0,) * many
                self.assertEqual(response(net, positions, held)[1 + many], 1)
                if leaks >= many:
                    self.assertEqual(leak_of(net), many * leaks)
                bound = 3 * many * leaks
                for base in {2, 3, bound - 1, bound, bound + 1, 10 ** 9}:
                    if base >= 2:
                        volt = volts_of(net, *row_world(many, leaks, base)[1:])[1 + many]
                        self.same(volt, pair_of(Fraction(base, base + many * leaks)))
                        self.assertEqual(volt_reads(volt) == 1, base >= bound)

    def test_the_volt_is_the_least(self):
        for many, leaks in ((1, 1), (1, 4), (2, 2), (3, 1), (2, 3)):
            net = row_net(many, leaks)
            positions, held = (1,) * len(net[2]), (0, 1) + (1,) * many
            for base in (2, 3, 10):
                least, _ = ends_at(net, positions, held, 1 + many, base)
                self.same(least, pair_of(Fraction(base, base + many * leaks)))
                self.assertIsNone(showing_world(net, positions, held, 0, 1 + many, base))

    def test_wrong_arguments(self):
        bad = {"many": bad_numbers(1), "leaks": bad_numbers(0), "base": bad_numbers(2)}
        self.refuses(row_net, {"many": 2, "leaks": 0}, bad)
        self.refuses(row_world, {"many": 2, "leaks": 0, "base": 2}, bad)
