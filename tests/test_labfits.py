"""Points 73 and 74: labs that fit states, whole rounds and whole turns."""

import random
from fractions import Fraction

from everyohm.labfits import lab_fits, start_fits
from everyohm.labrounds import whole_round, whole_turn
from everyohm.labs import Lab
from everyohm.moves import reason_of
from everyohm.starts import unknown_start
from everyohm.turning import turn
from everyohm.worldkinds import need, slack_after
from bads import NO_QUOTIENTS, bad_numbers, bads, near_row
from helpers import BARE, CROSS, DOUBLE, FIGHT, JUNK, LADDER, STORE, TURNER, Case
from nets import likely_net, some_feeds, some_quotient, some_state
from slowlabs import bounds, gated, some_feed_volts, some_start
from slowpapers import as_lists, changes, one_as_true, replaced, slow_fits
from slowranks import tanks_of

HALF, NOUGHT, ONE = (1, 2), (0, 1), (1, 1)
START = (2, ((5, 1), (17, 1)), ((4, 1),), (NOUGHT, ONE, ONE, (1, 5)), ((5, 1), (17, 1)))


def slow_lab_fits(net, closed, base, rooms, flows, volts, state, slack):
    """Return whether a lab fits: its charges by hand, all else as a world with the volts that are held."""
    positions, held = state
    first = len(net[0])
    for node, (value, volt) in enumerate(zip(held, volts)):
        loose = Fraction(*slack) if node >= first else 0
        if value != 2 and abs(Fraction(*volt) - value) > loose:
            return False
    exact = tuple(volt if value == 2 else (value, 1) for value, volt in zip(held, volts))
    if not slow_fits(net, positions, held, (base, flows, rooms, exact)):
        return False
    return all(flow == whole for position, flow, whole in zip(positions, flows, closed) if position == 1)


class LabFitsTest(Case):
    def fit(self, wanted, net, start, state, slack):
        """Check what both functions return for the lab of a start."""
        self.gives(wanted, start_fits, net=net, start=start, state=state, slack=slack)
        self.gives(wanted, lab_fits, lab=Lab(net, *start), state=state, slack=slack)

    def test_examples(self):
        lab = Lab(TURNER, 2, ((4, 1), (16, 1)), ((4, 1),), (NOUGHT, ONE, NOUGHT, ONE), ((4, 1), NOUGHT))
        lab.go_all((("turn", (NOUGHT, ONE, ONE)), ("read", 1, NOUGHT), ("settle", 3, (HALF,)), ("settle", 3, (ONE,))))
        self.same(lab_fits(lab, ((1, 1), (0, 1, 1, 0)), (1, 5)), True)
        self.same(lab_fits(lab, ((1, 1), (0, 1, 1, 0)), (1, 6)), False)
        # The start itself is another lab.
        self.same(start_fits(TURNER, lab.start(), ((1, 0), (0, 1, 0, 1)), NOUGHT), True)
        self.same(start_fits(TURNER, lab.start(), ((1, 1), (0, 1, 1, 0)), (1, 5)), False)

    def test_just_this_slack(self):
        tiny = 10 ** 50
        for wanted, slack in (
            (True, (1, 5)), (False, (tiny - 1, 5 * tiny)), (True, (1, 4)), (True, (7, 1)), (False, NOUGHT), (False, (1, 6)), (True, ONE),
        ):
            self.fit(wanted, TURNER, START, ((1, 1), (0, 1, 1, 0)), slack)
            flipped = START[:3] + ((NOUGHT, ONE, ONE, (4, 5)), START[4])
            self.fit(wanted, TURNER, flipped, ((1, 1), (0, 1, 1, 1)), slack)
        # What is held 2 fits with any volt; a feed has no slack.
        self.fit(True, TURNER, START, ((1, 1), (0, 1, 1, 2)), NOUGHT)
        self.fit(True, TURNER, START, ((1, 2), (0, 1, 2, 2)), NOUGHT)
        self.fit(False, TURNER, START, ((1, 1), (0, 1, 0, 0)), (9, 1))
        nearly = START[:3] + ((NOUGHT, ONE, (tiny - 1, tiny), (1, 5)), START[4])
        self.fit(False, TURNER, nearly, ((1, 1), (0, 1, 1, 0)), (9, 1))
        self.fit(True, TURNER, nearly, ((1, 1), (0, 1, 2, 0)), (1, 5))

    def test_flows(self):
        for flow, fitting in ((NOUGHT, (0, 2)), ((17, 1), (1, 2)), ((18, 1), (2,)), ((16, 1), (2,)), ((1, 3), (2,)), ((32, 1), (2,))):
            for position in (0, 1, 2):
                start = START[:4] + (((5, 1), flow),)
                self.fit(position in fitting, TURNER, start, ((1, position), (0, 1, 1, 2)), NOUGHT)

    def test_edges(self):
        self.fit(True, BARE, (2, (), (), (NOUGHT, ONE), ()), ((), (0, 1)), NOUGHT)
        bridge = (("low", "high", "a"), (), (("one", 1, 2, 0, 1),))
        start = (2, ((4, 1),), (), (NOUGHT, ONE, HALF), ((4, 1),))
        self.fit(True, bridge, start, ((1,), (0, 1, 2)), NOUGHT)
        self.fit(False, bridge, start, ((0,), (0, 1, 2)), NOUGHT)
        self.fit(False, bridge, start, ((1,), (0, 1, 1)), (5, 1))

    def test_what_is_no_start(self):
        state = ((1, 1), (0, 1, 1, 2))
        odd = JUNK + ((), START[:4], START + (1,), (START,), START[1:] + START[:1], (3,) + START[1:], (1,) + START[1:], (True,) + START[1:])
        for thing in odd + tuple(as_lists(START)) + tuple(one_as_true(START)):
            self.gives(False, start_fits, net=TURNER, start=thing, state=state, slack=ONE)
        for at, things in (
            (1, ((3, 1), (9, 1), NOUGHT)), (2, ((3, 1), (9, 1), NOUGHT)), (3, ((-1, 2), (3, 2))), (4, ((6, 1), NOUGHT)),
        ):
            for thing in things + NO_QUOTIENTS:
                other = replaced(START, at, replaced(START[at], 0, thing))
                if at != 3 or thing != NOUGHT:
                    self.gives(False, start_fits, net=TURNER, start=other, state=state, slack=ONE)

    def test_one_thing_changed(self):
        state = ((1, 1), (0, 1, 1, 0))
        taken = 0
        for other in changes(START, (None, True, -1, 0, (), [], NOUGHT, ONE, (5, 1), (33, 1), (2, 4))):
            wanted = self.makes_a_fitting_lab(other, state)
            taken += wanted
            self.same(start_fits(TURNER, other, state, (1, 4)), wanted)
        self.assertTrue(0 < taken < 60, taken)

    def makes_a_fitting_lab(self, start, state):
        try:
            return lab_fits(Lab(TURNER, *start), state, (1, 4)) if isinstance(start, tuple) else False
        except (TypeError, ValueError):
            return False

    def test_against_the_words(self):
        source = random.Random(73)
        seen = {True: 0, False: 0}
        for _ in range(600):
            net = likely_net(source, 2, 3, 4)
            base = source.choice((2, 5, 10 ** 6))
            state = some_state(source, net)
            base, closed, rooms, volts, flows = some_start(source, net, state, base)
            self.fit(True, net, (base, closed, rooms, volts, flows), state, NOUGHT)
            slack = source.choice((NOUGHT, (1, 4), (1, 3), HALF))
            for _ in range(source.randint(0, 2)):
                node = source.randrange(2, len(volts)) if len(volts) > 2 else None
                if node is not None:
                    volts = replaced(volts, node, some_quotient(source, 0, 1))
                for place in gated(net)[:source.randint(0, 2)]:
                    most = bounds(base, net[2][place][1])[1]
                    flows = replaced(flows, place, source.choice((NOUGHT, closed[place], some_quotient(source, 0, most))))
            wanted = slow_lab_fits(net, closed, base, rooms, flows, volts, state, slack)
            seen[wanted] += 1
            self.fit(wanted, net, (base, closed, rooms, volts, flows), state, slack)
        self.assertGreater(min(seen.values()), 100)

    def test_wrong_arguments(self):
        for net in (TURNER, CROSS, FIGHT):
            state = unknown_start(net)
            start = some_start(random.Random(12), net, state, 2)
            bad = dict(bads(net), start=[None])
            self.refuses(start_fits, {"net": net, "start": start, "state": state, "slack": NOUGHT}, bad, ("net", "start"))
            self.refuses(start_fits, {"net": net, "start": None, "state": state, "slack": NOUGHT}, bad, ("net", "start"))
            self.refuses(lab_fits, {"lab": Lab(net, *start), "state": state, "slack": NOUGHT}, bad, ("lab",))


class WholeRoundsTest(Case):
    def test_examples(self):
        self.gives((("read", 1, NOUGHT), ("settle", 3, (ONE,))), whole_round, net=TURNER)

    def test_moves(self):
        self.gives((), whole_round, net=BARE)
        self.gives((("settle", 2, (ONE,)),), whole_round, net=FIGHT)
        self.gives((("turn", (NOUGHT, ONE)),), whole_turn, net=BARE, volts=(NOUGHT, ONE), rounds=7)
        turned = ("turn", (NOUGHT, ONE, HALF))
        for rounds in range(4):
            wanted = (turned,) + (("read", 1, NOUGHT), ("settle", 3, (ONE,))) * rounds
            self.gives(wanted, whole_turn, net=TURNER, volts=turned[1], rounds=rounds)
        for net in (CROSS, DOUBLE, STORE, LADDER):
            moves = whole_round(net)
            self.same([move[1] for move in moves if move[0] == "read"], gated(net))
            self.same(moves[len(gated(net)):], tuple(("settle", tank, (ONE,) * len(net[1])) for tank in tanks_of(net)))
            for move in moves:
                self.same(reason_of(net, 2, move), None)

    def test_rounds_end_in_the_new_state(self):
        """As many whole rounds as the depth end in the new state, if the base is great enough."""
        source = random.Random(74)
        for _ in range(200):
            net = likely_net(source, 2, 4, 6)
            state, feeds = some_state(source, net), some_feeds(source, net)
            first, states = turn(net, state, feeds)
            base = need(net, len(net[1]) * len(states))
            lab = Lab(net, *some_start(source, net, state, base))
            volts = some_feed_volts(source, feeds)
            lab.go_all(whole_turn(net, volts, len(states) - 1))
            slack = slack_after(net, base, lab.adrift())
            self.assertGreaterEqual(lab.rounds(), len(states) - 1)
            self.same((lab_fits(lab, first, slack), lab_fits(lab, states[-1], slack)), (True, True))
            for node, value in enumerate(states[-1][1]):
                if value != 2:
                    self.same(lab.reads(node), value)

    def test_wrong_arguments(self):
        for net in (TURNER, BARE, CROSS):
            volts = (NOUGHT, ONE) + (HALF,) * (len(net[0]) - 2)
            heads = [(ONE, NOUGHT) + volts[2:], (NOUGHT, NOUGHT) + volts[2:], (HALF, ONE) + volts[2:]]
            bad = {
                "volts": near_row(volts, NO_QUOTIENTS + ((-1, 1), (2, 1))) + heads + [None, 0, ""],
                "rounds": bad_numbers(0),
            }
            self.refuses(whole_turn, {"net": net, "volts": volts, "rounds": 1}, bad, ("net",))
