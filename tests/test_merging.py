"""Points 38, 39 and 41: heaps and fillings, second ways to the response."""

import itertools
import random

from everyohm.fillings import by_fillings, fillings
from everyohm.merging import merged
from everyohm.responses import response
from bads import bads
from helpers import BARE, CROSS, FIGHT, LADDER, NETS, STORE, TURNER, Case
from nets import known_state, likely_net, some_net, some_state
from slowranks import all_known, slow_response


def few_unknown(source, net, most):
    """Return a state of the net with at most so many 2."""
    positions, held = known_state(source, net)
    values = list(positions + held)
    free = [at for at, switch in enumerate(net[2]) if switch[0] != "tie"] + list(range(len(positions) + 2, len(values)))
    for at in source.sample(free, min(len(free), source.randint(0, most))):
        values[at] = 2
    return tuple(values[:len(positions)]), tuple(values[len(positions):])


class MergedTest(Case):
    def test_examples(self):
        self.gives((0, 1, 1, 1), merged, net=LADDER, positions=(1, 1), held=(0, 1, 0, 0))
        self.gives((0, 1, 2), merged, net=FIGHT, positions=(1, 1), held=(0, 1, 0))

    def test_edges(self):
        self.gives((0, 1), merged, net=BARE, positions=(), held=(0, 1))
        feeds_only = (("low", "high", "a"), (("p", 1),), (("tie", 6, -1, 0, 2), ("tie", 6, -1, 0, 1)))
        for value in (0, 1):
            self.gives((0, 1, value, 1), merged, net=feeds_only, positions=(1, 1), held=(0, 1, value, 1))
            self.gives((0, 1, value, 0, value), merged, net=STORE, positions=(1,), held=(0, 1, value, 0, 1 - value))
            self.gives((0, 1, value, 0, 1), merged, net=STORE, positions=(0,), held=(0, 1, value, 0, 1))
        sizes = (("low", "high"), (("p", 1), ("q", 2), ("r", 2)), (("tie", 1, -1, 2, 3), ("one", 6, 0, 3, 4)))
        for p, q, r in itertools.product((0, 1), repeat=3):
            both = q if q == r else 2
            self.gives((0, 1, q, q, r), merged, net=sizes, positions=(1, 0), held=(0, 1, p, q, r))
            self.gives((0, 1, both, both, both), merged, net=sizes, positions=(1, 1), held=(0, 1, p, q, r))

    def test_a_heap_that_is_fixed_stays(self):
        # p is fixed at strength 3, and drives q at strength 2 against the feed.
        net = (("low", "high"), (("p", 1), ("q", 1)), (("tie", 3, -1, 1, 2), ("tie", 2, -1, 2, 3), ("tie", 1, -1, 0, 3)))
        self.gives((0, 1, 1, 1), merged, net=net, positions=(1, 1, 1), held=(0, 1, 0, 0))
        # p and q are fixed at one strength, and join only at a lesser one: both stay.
        net = (("low", "high"), (("p", 1), ("q", 1)), (("tie", 3, -1, 1, 2), ("tie", 3, -1, 0, 3), ("tie", 2, -1, 2, 3)))
        self.gives((0, 1, 1, 0), merged, net=net, positions=(1, 1, 1), held=(0, 1, 0, 0))
        # At one strength they are one heap, which two feeds fix.
        net = (net[0], net[1], net[2][:2] + (("tie", 3, -1, 2, 3),))
        self.gives((0, 1, 2, 2), merged, net=net, positions=(1, 1, 1), held=(0, 1, 0, 0))
        # A heap that is fixed at 2 drives with 2.
        net = (("low", "high"), (("p", 1), ("q", 1)), (("tie", 3, -1, 1, 2), ("tie", 3, -1, 0, 2), ("tie", 2, -1, 2, 3), ("tie", 1, -1, 1, 3)))
        self.gives((0, 1, 2, 2), merged, net=net, positions=(1, 1, 1, 1), held=(0, 1, 0, 1))

    def test_it_is_the_response(self):
        source = random.Random(38)
        for _ in range(1500):
            net = likely_net(source, 2, 5, 8)
            positions, held = known_state(source, net)
            self.same(merged(net, positions, held), response(net, positions, held))

    def test_all_fillings_of_small_nets(self):
        ends = [(0, 2), (1, 2), (2, 3), (0, 3), (1, 3)]
        for many in range(4):
            for pairs in itertools.combinations(ends, many):
                for strengths in itertools.product((1, 2), repeat=many):
                    switches = tuple(("one", strength, 0) + pair for strength, pair in zip(strengths, pairs))
                    net = (("low", "high"), (("p", 1), ("q", 1)), switches)
                    for positions in itertools.product((0, 1), repeat=many):
                        for p, q in ((0, 1), (1, 0), (1, 1)):
                            held = (0, 1, p, q)
                            self.same(merged(net, positions, held), slow_response(net, positions, held))

    def test_wrong_arguments(self):
        for net, positions, held in ((TURNER, (1, 0), (0, 1, 1, 0)), (STORE, (1,), (0, 1, 0, 0, 1)), (BARE, (), (0, 1))):
            bad = bads(net)
            bad["positions"] = bad["positions"] + [positions[:-1] + (2,)]
            bad["held"] = bad["held"] + [held[:-1] + (2,), (0, 1) + (2,) * (len(held) - 2) + (2,) * (len(held) == 2)]
            self.refuses(merged, {"net": net, "positions": positions, "held": held}, bad, ("net",))
        self.fails("NotUsable", ("positions", -1), merged, STORE, (2,), (0, 1, 2, 0, 0))
        self.fails("NotUsable", ("held", -1), merged, STORE, (1,), (0, 1, 2, 0, 0))


class FillingsTest(Case):
    def test_examples(self):
        self.same(list(fillings(STORE, (2,), (0, 1, 1, 0, 2)))[1:3], [((0,), (0, 1, 1, 0, 1)), ((1,), (0, 1, 1, 0, 0))])
        self.gives((0, 1, 2, 2), by_fillings, net=TURNER, positions=(1, 2), held=(0, 1, 2, 0))

    def test_sequence(self):
        source = random.Random(39)
        for _ in range(200):
            net = some_net(source, 2, 4, 5)
            positions, held = few_unknown(source, net, 7)
            rows = all_known(positions + held)
            wanted = [(row[:len(positions)], row[len(positions):]) for row in rows]
            self.same(list(fillings(net, positions, held)), wanted)
            self.same(list(fillings(net=net, held=held, positions=positions)), wanted)

    def test_edges(self):
        self.same(list(fillings(BARE, (), (0, 1))), [((), (0, 1))])
        self.same(list(fillings(TURNER, (1, 0), (0, 1, 1, 0))), [((1, 0), (0, 1, 1, 0))])
        self.same(list(fillings(FIGHT, (1, 1), (0, 1, 2))), [((1, 1), (0, 1, 0)), ((1, 1), (0, 1, 1))])
        self.gives((0, 1), by_fillings, net=BARE, positions=(), held=(0, 1))
        ten = (("low", "high"), tuple((f"t{at}", 1) for at in range(10)), ())
        rows = list(fillings(ten, (), (0, 1) + (2,) * 10))
        self.same((len(rows), rows[0][1], rows[1][1], rows[-1][1]), (
            1024, (0, 1) + (0,) * 10, (0, 1) + (0,) * 9 + (1,), (0, 1) + (1,) * 10))
        self.gives((0, 1) + (2,) * 10, by_fillings, net=ten, positions=(), held=(0, 1) + (2,) * 10)

    def test_results_belong_to_the_caller(self):
        first = fillings(FIGHT, (1, 1), (0, 1, 2))
        second = fillings(FIGHT, (1, 1), (0, 1, 2))
        self.same([next(first), next(second), next(second), next(first)], [
            ((1, 1), (0, 1, 0)), ((1, 1), (0, 1, 0)), ((1, 1), (0, 1, 1)), ((1, 1), (0, 1, 1))])

    def test_they_give_the_response(self):
        source = random.Random(391)
        for _ in range(400):
            net = likely_net(source, 2, 4, 6)
            positions, held = few_unknown(source, net, 6)
            self.same(by_fillings(net, positions, held), response(net, positions, held))

    def test_errors_come_with_the_first_result(self):
        for positions, held, word in (((3,), None, "positions"), ((1,), (0, 1), "held"), ([1], (0, 1, 1, 1, 1), "positions")):
            pairs = fillings(STORE, positions, held)
            self.fails("NotUsable", (word, -1), lambda: next(pairs))

    def test_wrong_arguments(self):
        for net in (TURNER, CROSS) + NETS[-2:]:
            positions, held = some_state(random.Random(1), net)
            good = {"net": net, "positions": positions, "held": held}
            first = lambda net, positions, held: next(fillings(net, positions, held))
            self.refuses(first, good, bads(net), ("net",))
            self.refuses(by_fillings, good, bads(net), ("net",))
