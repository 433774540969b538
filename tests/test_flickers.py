"""Point 63: flickers, shown tanks, single turns."""

import random

from everyohm.flickers import flickers, is_single, shown_tanks
from everyohm.groups import groups_of
from everyohm.starts import is_known_state, unknown_start
from everyohm.turning import turn
from bads import bads
from helpers import BARE, CROSS, DOUBLE, TURNER, Case
from nets import known_state, likely_net, some_feeds, some_state
from slowranks import tanks_of

GLITCH = (("low", "high", "a"), (("q", 1),), (("tie", 1, -1, 0, 3), ("one", 2, 2, 1, 3), ("zero", 2, 2, 1, 3)))
BEFORE = ((1, 0, 1, 1), (0, 1, 0, 1, 0))
# The tanks q and r hang together and turn with a; q and r are gates of switches between feeds.
BOTH = (("low", "high", "a"), (("q", 1), ("r", 1)), (
    ("tie", 1, -1, 1, 3), ("one", 2, 2, 0, 3), ("tie", 6, -1, 3, 4), ("one", 1, 3, 0, 1), ("one", 1, 4, 0, 1)))


class FlickersTest(Case):
    def test_example(self):
        self.gives((3,), flickers, net=GLITCH, state=((1, 0, 1), (0, 1, 0, 1)), feeds=(0, 1, 1))

    def test_small_nets(self):
        self.gives((), flickers, net=GLITCH, state=((1, 0, 1), (0, 1, 0, 1)), feeds=(0, 1, 0))
        self.gives((), flickers, net=GLITCH, state=((1, 0, 1), (0, 1, 0, 0)), feeds=(0, 1, 1))
        self.gives((), flickers, net=GLITCH, state=((1, 0, 1), (0, 1, 0, 2)), feeds=(0, 1, 1))
        # A feed that stays unknown, and a tank that is unknown behind the turn.
        self.gives((), flickers, net=GLITCH, state=((1, 0, 1), (0, 1, 0, 1)), feeds=(0, 1, 2))
        self.gives((), flickers, net=TURNER, state=((1, 0), (0, 1, 0, 1)), feeds=(0, 1, 1))
        self.gives((), flickers, net=BARE, state=((), (0, 1)), feeds=(0, 1))
        self.gives((), shown_tanks, net=BARE, state=((), (0, 1)), feeds=(0, 1))
        self.gives(True, is_single, net=BARE, state=((), (0, 1)), feeds=(0, 1))

    def test_shown(self):
        self.gives((3,), shown_tanks, net=DOUBLE, state=BEFORE, feeds=(0, 1, 1))
        self.gives((), shown_tanks, net=DOUBLE, state=BEFORE, feeds=(0, 1, 0))
        self.gives((), shown_tanks, net=DOUBLE, state=((1, 2, 1, 2), (0, 1, 0, 2, 0)), feeds=(0, 1, 1))
        self.gives((), shown_tanks, net=GLITCH, state=((1, 0, 1), (0, 1, 0, 1)), feeds=(0, 1, 1))
        self.gives(True, is_single, net=DOUBLE, state=BEFORE, feeds=(0, 1, 1))
        state = ((1, 0, 1, 1, 1), (0, 1, 0, 1, 1))
        self.gives((3, 4), shown_tanks, net=BOTH, state=state, feeds=(0, 1, 1))
        self.gives(False, is_single, net=BOTH, state=state, feeds=(0, 1, 1))
        self.gives(True, is_single, net=BOTH, state=state, feeds=(0, 1, 0))
        apart = (BOTH[0], BOTH[1], BOTH[2][:2] + (("tie", 6, -1, 1, 4), ("one", 3, 2, 0, 4)) + BOTH[2][3:])
        state = ((1, 0, 1, 0, 1, 1), (0, 1, 0, 1, 1))
        self.gives((3,), shown_tanks, net=apart, state=state, feeds=(0, 1, 1))
        apart = (BOTH[0], BOTH[1], BOTH[2][:2] + (("tie", 2, -1, 1, 4), ("one", 3, 2, 0, 4)) + BOTH[2][3:])
        self.gives((3, 4), shown_tanks, net=apart, state=state, feeds=(0, 1, 1))
        self.gives(True, is_single, net=apart, state=state, feeds=(0, 1, 1))

    def test_against_the_words(self):
        source = random.Random(63)
        seen = {"flickers": 0, "shown": 0, True: 0, False: 0}
        for _ in range(600):
            net = likely_net(source, 2, 4, 7)
            state = known_state(source, net) if source.random() < 0.7 else some_state(source, net)
            feeds = some_feeds(source, net)
            first, states = turn(net, state, feeds)
            old, middle, new = state[1], first[1], states[-1][1]
            flicker = tuple(tank for tank in tanks_of(net) if middle[tank] == 2 and old[tank] == new[tank] in (0, 1))
            shown = tuple(
                tank for tank in tanks_of(net)
                if any(switch[2] == tank for switch in net[2]) and old[tank] in (0, 1) and middle[tank] == 2)
            self.gives(flicker, flickers, net=net, state=state, feeds=feeds)
            self.gives(shown, shown_tanks, net=net, state=state, feeds=feeds)
            seen["flickers"] += flicker != ()
            seen["shown"] += shown != ()
            known = all(position != 2 for position in state[0]) and all(
                switch[2] < len(net[0]) or old[switch[2]] != 2 for switch in net[2])
            self.same(is_known_state(net, state), known)
            if known:
                single = all(len(set(group) & set(shown)) < 2 for group in groups_of(net))
                seen[single] += 1
                self.gives(single, is_single, net=net, state=state, feeds=feeds)
            else:
                self.fails("NotUsable", ("state", -1), is_single, net, state, feeds)
        self.assertTrue(min(seen.values()) > 5, seen)

    def test_wrong_arguments(self):
        for net in (TURNER, CROSS, GLITCH):
            state = known_state(random.Random(12), net)
            good = {"net": net, "state": state, "feeds": (0, 1) + (2,) * (len(net[0]) - 2)}
            self.refuses(flickers, good, bads(net), ("net",))
            self.refuses(shown_tanks, good, bads(net), ("net",))
            bad = dict(bads(net))
            bad["state"] = bad["state"] + [unknown_start(net)]
            self.refuses(is_single, good, bad, ("net",))
        gates = ((1, 0, 1, 1), (0, 1, 0, 2, 0))
        self.fails("NotUsable", ("state", -1), is_single, DOUBLE, gates, (0, 1, 1))
        self.fails("NotUsable", ("state", -1), is_single, DOUBLE, gates, None)
        self.gives(True, is_single, net=DOUBLE, state=((1, 0, 1, 1), (0, 1, 2, 1, 2)), feeds=(0, 1, 0))
