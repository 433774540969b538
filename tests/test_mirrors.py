"""Points 64 and 11 (G9): mirrored nets, states and feed values."""

import random

from everyohm.mirrors import mirrored, mirrored_feeds, mirrored_state
from everyohm.netkinds import is_net
from everyohm.responses import response
from everyohm.starts import readings
from everyohm.tables import may
from everyohm.turning import turn
from bads import bads
from helpers import BARE, CROSS, NETS, STORE, TURNER, Case
from nets import likely_net, some_feeds, some_net, some_state


def flipped_values(values):
    return values[:2] + tuple((1, 0, 2)[value] for value in values[2:])


class MirrorsTest(Case):
    def test_example(self):
        self.same(mirrored(TURNER)[2], (("tie", 1, -1, 0, 3), ("zero", 2, 2, 1, 3)))

    def test_nets(self):
        self.gives(BARE, mirrored, net=BARE)
        net = (("low", "high", "a"), (("q", 3), ("r", 1)), (
            ("one", 1, 0, 0, 1), ("zero", 2, 1, 1, 3), ("one", 6, 3, 4, 0), ("tie", 5, -1, 2, 1), ("zero", 4, 2, 3, 4), ("tie", 1, -1, 1, 0)))
        self.gives((net[0], net[1], (
            ("zero", 1, 1, 1, 0), ("one", 2, 0, 0, 3), ("zero", 6, 3, 4, 1), ("tie", 5, -1, 2, 0), ("one", 4, 2, 3, 4), ("tie", 1, -1, 0, 1),
        )), mirrored, net=net)
        source = random.Random(64)
        for net in NETS + tuple(some_net(source, 3, 5, 8) for _ in range(100)):
            other = mirrored(net)
            self.same(is_net(other), True)
            self.same(other[:2], net[:2])
            self.same(mirrored(other), net)

    def test_states_and_feeds(self):
        self.gives(((1, 2), (0, 1, 0, 2)), mirrored_state, net=TURNER, state=((1, 2), (0, 1, 1, 2)))
        self.gives(((1, 0), (0, 1, 1, 0)), mirrored_state, net=TURNER, state=((1, 0), (0, 1, 0, 1)))
        self.gives(((), (0, 1)), mirrored_state, net=BARE, state=((), (0, 1)))
        self.gives((0, 1), mirrored_feeds, net=BARE, feeds=(0, 1))
        for value, other in ((0, 1), (1, 0), (2, 2)):
            self.gives((0, 1, other, value), mirrored_feeds, net=STORE, feeds=(0, 1, value, other))

    def test_g9(self):
        source = random.Random(9)
        for _ in range(300):
            net = likely_net(source, 2, 5, 8)
            (positions, held), feeds = some_state(source, net), some_feeds(source, net)
            other, (same_positions, other_held) = mirrored(net), mirrored_state(net, (positions, held))
            self.same((same_positions, other_held), (positions, flipped_values(held)))
            self.same(readings(other, other_held), readings(net, held))
            self.same(response(other, positions, other_held), flipped_values(response(net, positions, held)))
            for value in (0, 1):
                # Low and high are held as before, so their own numbers change places.
                numbers = may(net, positions, held, value)
                self.same(may(other, positions, other_held, 1 - value)[2:], numbers[2:])
            first, states = turn(net, (positions, held), feeds)
            wanted = tuple((one[0], flipped_values(one[1])) for one in states)
            told = turn(other, (positions, other_held), mirrored_feeds(net, feeds))
            self.same(told, (wanted[0], wanted))
            self.same(mirrored_state(net, first), wanted[0])

    def test_wrong_arguments(self):
        for net in (TURNER, CROSS, BARE):
            state = some_state(random.Random(13), net)
            self.refuses(mirrored_state, {"net": net, "state": state}, bads(net), ("net",))
            self.refuses(mirrored_feeds, {"net": net, "feeds": (0, 1) + (2,) * (len(net[0]) - 2)}, bads(net), ("net",))
