"""Points 71, 72 and 78: labs, their moves, volts and rounds."""

import random
from fractions import Fraction

from everyohm.labrounds import whole_round, whole_turn
from everyohm.labs import Lab
from everyohm.moves import reason_of
from everyohm.volts import volts_of
from bads import NO_QUOTIENTS, bad_numbers, bads, near_row
from helpers import BARE, CROSS, DOUBLE, FIGHT, JUNK, LADDER, STORE, TURNER, Case, shape
from nets import likely_net, some_state
from slowlabs import SlowLab, bounds, gated, slow_reads, some_feed_volts, some_move, some_start
from slowranks import nodes_of, pair_of

HALF, NOUGHT, ONE = (1, 2), (0, 1), (1, 1)
TIES = (("low", "high", "a"), (("p", 1), ("q", 2), ("r", 1)), (("tie", 1, -1, 3, 4), ("tie", 2, -1, 2, 5)))
# Switches between feeds alone, and a tank by itself.
BRIDGES = (("low", "high", "a"), (("p", 1),), (("one", 1, 2, 0, 1), ("zero", 2, 3, 1, 2)))
NO_TANKS = (("low", "high", "a"), (), (("one", 1, 2, 0, 1), ("zero", 2, 2, 1, 2), ("tie", 1, -1, 0, 2)))


def a_lab():
    """Return the lab of the document's example."""
    return Lab(TURNER, 2, ((4, 1), (16, 1)), ((4, 1),), (NOUGHT, ONE, NOUGHT, ONE), ((4, 1), NOUGHT))


def plain_start(net, base=2):
    """Return the start of a lab in which all is least, the tanks at nought, all switches but ties open."""
    closed = tuple((bounds(base, switch[1])[0], 1) for switch in net[2])
    rooms = tuple((bounds(base, size)[0], 1) for _, size in net[1])
    flows = tuple(flow if switch[0] == "tie" else NOUGHT for switch, flow in zip(net[2], closed))
    return (base, closed, rooms, (NOUGHT, ONE) + (NOUGHT,) * (len(net[0]) + len(net[1]) - 2), flows)


class LabsTest(Case):
    def told(self, lab):
        """Return all that a lab tells."""
        return (
            lab.volts(), lab.flows(), lab.settlings(), lab.adrift(), lab.rounds(), lab.start(), lab.net(),
            tuple(lab.volt(node) for node in nodes_of(lab.net())), tuple(lab.reads(node) for node in nodes_of(lab.net())),
        )

    def test_examples(self):
        lab = a_lab()
        self.same(lab.go(("turn", (NOUGHT, ONE, ONE))), None)
        self.same(lab.go_all((("read", 1, NOUGHT), ("settle", 3, (HALF,)))), None)
        self.same((lab.volt(3), lab.reads(3), lab.flows(), lab.rounds()), ((3, 5), 2, ((4, 1), (16, 1)), 0))
        lab.go(("settle", 3, (ONE,)))
        self.same((lab.volt(3), lab.reads(3), lab.settlings(), lab.rounds()), ((1, 5), 0, 2, 1))

    def test_what_is_told_at_first(self):
        start = (2, ((4, 1), (16, 1)), ((4, 1),), (NOUGHT, ONE, HALF, (1, 3)), ((4, 1), (3, 7)))
        for lab in (Lab(TURNER, *start), Lab(flows=start[4], volts=start[3], rooms=start[2], closed=start[1], base=2, net=TURNER)):
            self.same(self.told(lab), (
                start[3], start[4], 0, 0, 0, start, TURNER, start[3], (0, 1, 2, 2)))
            for node, reads in ((0, 0), (1, 1), (2, 2), (3, 2)):
                self.gives(reads, lab.reads, node=node)
                self.gives(start[3][node], lab.volt, node=node)
        self.same(self.told(Lab(BARE, 2, (), (), (NOUGHT, ONE), ())), (
            (NOUGHT, ONE), (), 0, 0, 0, (2, (), (), (NOUGHT, ONE), ()), BARE, (NOUGHT, ONE), (0, 1)))

    def test_bounds_of_the_start(self):
        good = {"net": TURNER, "base": 2, "closed": ((8, 1), (32, 1)), "rooms": ((8, 1),), "volts": (NOUGHT, ONE, ONE, ONE), "flows": ((8, 1), (32, 1))}
        tiny = 10 ** 40
        for name, things, bad in (
            ("closed", (((8, 1), (16, 1)), ((8, 1), (33, 2))), (
                ((8, 1), (15, 1)), ((8, 1), (33, 1)), ((3, 1), (16, 1)), ((9, 1), (16, 1)), ((8, 1), (16 * tiny - 1, tiny)), ((8, 1), NOUGHT))),
            ("rooms", (((4, 1),), ((9, 2),)), (((3, 1),), ((9, 1),), ((4 * tiny - 1, tiny),), ((8 * tiny + 1, tiny),), (NOUGHT,), ((-4, 1),))),
            ("volts", ((NOUGHT, ONE, NOUGHT, NOUGHT), (NOUGHT, ONE, HALF, HALF)), (
                (ONE, NOUGHT, ONE, ONE), (NOUGHT, NOUGHT, ONE, ONE), ((1, tiny), ONE, ONE, ONE), (NOUGHT, (tiny - 1, tiny), ONE, ONE),
                (NOUGHT, ONE, ONE, (tiny + 1, tiny)), (NOUGHT, ONE, (-1, tiny), ONE))),
            ("flows", (((8, 1), NOUGHT), ((8, 1), (1, 3))), (
                ((8, 1), (33, 1)), ((8, 1), (-1, tiny)), ((7, 1), NOUGHT), (NOUGHT, NOUGHT), ((8 * tiny + 1, tiny), NOUGHT))),
        ):
            for thing in things:
                self.assertEqual(Lab(**dict(good, **{name: thing})).start()[("closed", "rooms", "volts", "flows").index(name) + 1], thing)
            for thing in bad:
                self.fails("NotUsable", (name, -1), Lab, **dict(good, **{name: thing}))
        # The base moves all bounds; a tie has just its closed flow.
        self.fails("NotUsable", ("closed", -1), Lab, **dict(good, base=3))
        self.fails("NotUsable", ("flows", -1), Lab, **dict(good, closed=((7, 1), (32, 1))))

    def test_wrong_arguments(self):
        for net in (TURNER, CROSS, LADDER):
            base, closed, rooms, volts, flows = plain_start(net)
            good = {"net": net, "base": base, "closed": closed, "rooms": rooms, "volts": volts, "flows": flows}
            bad = {
                "net": [thing for thing in JUNK if thing != BARE] + [list(net), net[:2], (net[0], net[1], list(net[2]))],
                "base": bad_numbers(2),
                "closed": near_row(closed, NO_QUOTIENTS) + [None, NOUGHT, ""],
                "rooms": near_row(rooms, NO_QUOTIENTS) + [None, 0],
                "volts": bads(net)["volts"] + [(ONE, NOUGHT) + volts[2:]],
                "flows": near_row(flows, NO_QUOTIENTS) + [None, 0],
            }
            self.refuses(Lab, good, bad)
        lab = a_lab()
        for function in (lab.volt, lab.reads):
            self.refuses(function, {"node": 0}, {"node": bad_numbers(0, 3)})

    def test_turns_and_feeds_change_feeds_alone(self):
        lab = Lab(STORE, 2, ((4, 1),), ((4, 1),), (NOUGHT, ONE, ONE, ONE, HALF), ((4, 1),))
        lab.go(("turn", (NOUGHT, ONE, (1, 3), NOUGHT)))
        self.same((lab.volts(), lab.flows()), ((NOUGHT, ONE, (1, 3), NOUGHT, HALF), ((4, 1),)))
        lab.go(("feed", 3, (2, 3)))
        self.same((lab.volts(), lab.flows()), ((NOUGHT, ONE, (1, 3), (2, 3), HALF), ((4, 1),)))
        self.same((lab.settlings(), lab.adrift()), (0, 0))

    def test_readings(self):
        for kind in ("one", "zero"):
            net = (("low", "high", "a"), (("q", 1),), ((kind, 1, 2, 0, 3), (kind, 1, 3, 1, 3)))
            for volt, reads in ((NOUGHT, 0), ((1, 4), 0), ((10 ** 12 + 4, 4 * 10 ** 12 + 15), 2), (HALF, 2), ((3, 4), 1), (ONE, 1)):
                reads = slow_reads(Fraction(*volt))
                position = reads if kind == "one" or reads == 2 else 1 - reads
                for switch in (0, 1):
                    lab = Lab(net, 2, ((5, 1), (6, 1)), ((4, 1),), (NOUGHT, ONE, volt, volt), ((1, 9), (2, 9)))
                    lab.go(("read", switch, (7, 2)))
                    flow = (NOUGHT, ((5, 1), (6, 1))[switch], (7, 2))[position]
                    wanted = (flow, (2, 9)) if switch == 0 else ((1, 9), flow)
                    self.same((lab.flows(), lab.volts()), (wanted, (NOUGHT, ONE, volt, volt)))

    def test_settlings(self):
        # Half of the way for p, none for q; low, high and the tank r, in another part, stay.
        net = (("low", "high"), (("p", 1), ("q", 1), ("r", 1)), (("tie", 1, -1, 1, 2), ("tie", 1, -1, 2, 3)))
        start = (2, ((4, 1), (8, 1)), ((4, 1),) * 3, (NOUGHT, ONE, NOUGHT, (1, 3), (1, 5)), ((4, 1), (8, 1)))
        lab = Lab(net, *start)
        lab.go(("settle", 2, (HALF, NOUGHT, ONE)))
        self.same(lab.volts(), (NOUGHT, ONE, HALF, (1, 3), (1, 5)))
        lab.go(("settle", 3, (NOUGHT, (1, 4), ONE)))
        self.same(lab.volts(), (NOUGHT, ONE, HALF, (1, 2), (1, 5)))
        lab.go(("settle", 4, (ONE, ONE, ONE)))
        self.same((lab.volts(), lab.flows()), ((NOUGHT, ONE, HALF, HALF, (1, 5)), ((4, 1), (8, 1))))
        self.same((lab.settlings(), lab.adrift(), lab.start()), (3, 0, start))

    def test_adrift(self):
        # p and q are of different sizes; the feed a touches them only while its switch has a flow.
        net = (("low", "high", "a"), (("p", 1), ("q", 2)), (("tie", 1, -1, 3, 4), ("one", 1, 2, 1, 3)))
        lab = Lab(net, 2, ((4, 1), (4, 1)), ((4, 1), (16, 1)), (NOUGHT, ONE, NOUGHT, ONE, NOUGHT), ((4, 1), NOUGHT))
        lab.go(("settle", 3, (ONE, ONE)))
        self.same((lab.volt(3), lab.volt(4), lab.settlings(), lab.adrift()), ((1, 5), (1, 5), 1, 1))
        lab.go_all((("settle", 4, (NOUGHT, NOUGHT)), ("feed", 2, ONE), ("read", 1, NOUGHT), ("settle", 4, (ONE, ONE))))
        self.same((lab.volt(4), lab.settlings(), lab.adrift()), (ONE, 3, 2))
        lab.go_all((("turn", (NOUGHT, ONE, NOUGHT)), ("settle", 3, (ONE, ONE)), ("read", 1, NOUGHT), ("settle", 3, (ONE, ONE))))
        self.same((lab.settlings(), lab.adrift()), (5, 3))
        one_size = (net[0], (("p", 2), ("q", 2)), net[2])
        lab = Lab(one_size, 2, ((4, 1), (4, 1)), ((16, 1), (32, 1)), (NOUGHT, ONE, NOUGHT, ONE, NOUGHT), ((4, 1), NOUGHT))
        lab.go(("settle", 3, (ONE, ONE)))
        self.same((lab.volts()[3:], lab.settlings(), lab.adrift()), (((1, 3), (1, 3)), 1, 0))
        lone = (("low", "high"), (("p", 3),), ())
        lab = Lab(lone, 2, (), ((64, 1),), (NOUGHT, ONE, HALF), ())
        lab.go(("settle", 2, (ONE,)))
        self.same((lab.volts(), lab.settlings(), lab.adrift(), lab.rounds()), ((NOUGHT, ONE, HALF), 1, 0, 1))

    def test_against_fractions(self):
        source = random.Random(72)
        ended = adrift = 0
        for _ in range(250):
            net = likely_net(source, 2, 4, 6) if source.random() < 0.9 else NO_TANKS
            base = source.choice((2, 3, 50, 10 ** 9))
            start = some_start(source, net, some_state(source, net), base)
            lab, other = Lab(net, *start), SlowLab(net, *start)
            free = list(range(2, len(net[0])))
            moves = [some_move(source, net, base, free) for _ in range(source.randint(1, 25))]
            for _ in range(source.randint(0, 3)):
                at = source.randint(0, len(moves))
                moves[at:at] = [("turn", some_feed_volts(source, (0, 1) + (2,) * len(free)))] + list(whole_round(net)) * source.randrange(3)
            for move in moves:
                if move is None:
                    continue
                self.same(reason_of(net, base, move), None)
                self.same(lab.go(move), None)
                other.go(move)
                self.same(lab.volts(), tuple(pair_of(volt) for volt in other.volts))
                self.same(lab.flows(), tuple(other.flows))
                self.same((lab.rounds(), lab.settlings(), lab.adrift()), (other.rounds(), other.settlings, int(other.adrift)))
            ended += lab.rounds()
            adrift += lab.adrift()
            self.same(self.told(lab)[5:7], (start, net))
            self.same(tuple(lab.reads(node) for node in nodes_of(net)), tuple(slow_reads(volt) for volt in other.volts))
        self.assertGreater(ended, 150)
        self.assertGreater(adrift, 10)

    def test_a_whole_settling_gives_the_volts_of_the_world(self):
        source = random.Random(721)
        for _ in range(100):
            net = likely_net(source, 2, 4, 6)
            start = some_start(source, net, some_state(source, net), 3)
            lab = Lab(net, *start)
            wanted = volts_of(net, start[4], start[2], start[3])
            for move in whole_round(net):
                if move[0] == "settle":
                    lab.go(move)
            self.same(lab.volts(), wanted)

    def test_moves_that_cannot_be_made(self):
        good = ("read", 1, NOUGHT)
        for move, reason in (
            (None, "shape"), (["turn", (NOUGHT, ONE, ONE)], "shape"), (("turn",), "shape"), (("feed", 1, ONE), "feed"), (("feed", 3, None), "feed"),
            (("feed", 2, None), "volt"), (("turn", (ONE, NOUGHT, ONE)), "volt"), (("read", 0, None), "switch"), (("read", 1, (33, 1)), "flow"),
            (("settle", 2, None), "tank"), (("settle", 3, (ONE, ONE)), "shares"), (("settle", 3, ((2, 1),)), "shares"), (["settle"], "shape"),
        ):
            lab = a_lab()
            lab.go(("turn", (NOUGHT, ONE, ONE)))
            before = shape(self.told(lab))
            self.fails("InvalidMove", (move, reason), lab.go, move)
            self.fails("InvalidMove", (move, reason), lab.go, move=move)
            self.fails("InvalidMove", (move, reason), lab.go_all, (move, good))
            self.assertEqual(shape(self.told(lab)), before)
            # The moves ahead of it stay made, those behind it are not.
            self.fails("InvalidMove", (move, reason), lab.go_all, moves=(good, ("settle", 3, (ONE,)), move, ("feed", 2, HALF)))
            self.same((lab.flows(), lab.volts(), lab.rounds()), (((4, 1), (16, 1)), (NOUGHT, ONE, ONE, (1, 5)), 1))

    def test_go_all(self):
        for thing in [thing for thing in JUNK if not isinstance(thing, tuple)] + [[("settle", 3, (ONE,))], "settle"]:
            lab = a_lab()
            before = shape(self.told(lab))
            self.fails("NotUsable", ("moves", -1), lab.go_all, thing)
            self.fails("NotUsable", ("moves", -1), lab.go_all, moves=thing)
            self.assertEqual(shape(self.told(lab)), before)
        lab = a_lab()
        self.same(lab.go_all(()), None)
        self.same(lab.go_all(moves=(("settle", 3, (ONE,)),)), None)
        self.same(lab.settlings(), 1)

    def test_two_labs_beside_one_another(self):
        one, other = a_lab(), a_lab()
        one.go_all(whole_turn(TURNER, (NOUGHT, ONE, ONE), 2))
        self.same((one.reads(3), one.rounds(), one.settlings()), (0, 2, 2))
        self.same((other.reads(3), other.rounds(), other.settlings(), other.volts()), (1, 0, 0, (NOUGHT, ONE, NOUGHT, ONE)))
        other.go(("feed", 2, HALF))
        self.same(one.volt(2), ONE)


class RoundsTest(Case):
    def rounds(self, net, *moves):
        """Return how many rounds have ended behind each move, from a plain start on."""
        lab, counts = Lab(net, *plain_start(net)), []
        for move in moves:
            lab.go(move)
            counts.append(lab.rounds())
        return counts

    def test_by_hand(self):
        read, settle = ("read", 1, NOUGHT), ("settle", 3, (ONE,))
        # What settles ahead of the reading does not count for it.
        self.assertEqual(self.rounds(TURNER, settle, read, settle, settle, read, settle), [0, 0, 1, 1, 1, 2])
        self.assertEqual(self.rounds(TURNER, read, ("settle", 3, (HALF,)), read, ("feed", 2, ONE), settle), [0, 0, 0, 0, 1])
        # The second reading of a switch does not put off the round.
        self.assertEqual(self.rounds(TURNER, read, read, settle, read, read, settle), [0, 0, 1, 1, 1, 2])
        turn = ("turn", (NOUGHT, ONE, ONE))
        self.assertEqual(self.rounds(TURNER, read, turn, settle, read, settle, turn, settle), [0, 0, 0, 0, 1, 0, 0])

    def test_more_switches_and_tanks(self):
        first, second = ("read", 1, NOUGHT), ("read", 3, NOUGHT)
        p, q = ("settle", 3, (ONE, ONE)), ("settle", 4, (ONE, ONE))
        self.assertEqual(self.rounds(DOUBLE, first, p, q, second, p, p, first, q), [0, 0, 0, 0, 0, 0, 0, 1])
        self.assertEqual(self.rounds(DOUBLE, second, first, second, q, p, q, p), [0, 0, 0, 0, 1, 1, 1])
        # A tank must have one as its own share, whatever the others have.
        self.assertEqual(self.rounds(DOUBLE, first, second, ("settle", 3, (HALF, ONE)), ("settle", 4, (HALF, ONE)), ("settle", 3, (ONE, HALF))), [0, 0, 0, 0, 1])

    def test_a_part_that_settles_counts_for_all_of_its_tanks(self):
        both = ("settle", 3, (ONE, ONE, ONE))
        self.assertEqual(self.rounds(TIES, both, ("settle", 5, (NOUGHT, NOUGHT, ONE)), ("settle", 4, (ONE, HALF, ONE)), ("settle", 5, (ONE,) * 3), ("settle", 3, (NOUGHT, ONE, NOUGHT))), [0, 1, 1, 1, 2])
        self.assertEqual(self.rounds(TIES, both, ("feed", 2, HALF), both, ("turn", (NOUGHT, ONE, ONE)), ("settle", 5, (ONE,) * 3), both), [0, 0, 0, 0, 0, 1])

    def test_switches_between_feeds(self):
        settle = ("settle", 3, (ONE,))
        self.assertEqual(self.rounds(BRIDGES, settle, ("read", 0, NOUGHT), settle, ("read", 1, NOUGHT), settle), [0, 0, 0, 0, 1])

    def test_without_tanks(self):
        one, other = ("read", 0, NOUGHT), ("read", 1, NOUGHT)
        self.assertEqual(self.rounds(NO_TANKS, one, one, ("feed", 2, HALF), other, other, one, other), [0, 0, 0, 1, 1, 2, 2])
        ties = (("low", "high", "a"), (), (("tie", 1, -1, 0, 2),))
        turn, feed = ("turn", (NOUGHT, ONE, ONE)), ("feed", 2, HALF)
        self.assertEqual(self.rounds(ties, feed, feed, turn, feed), [1, 2, 0, 1])
        self.assertEqual(self.rounds((ties[0], (), ()), feed, turn, feed, feed), [1, 0, 1, 2])

    def test_ties_alone(self):
        settle = ("settle", 2, (ONE, ONE))
        self.assertEqual(self.rounds(LADDER, settle, settle, ("settle", 3, (ONE, NOUGHT)), ("settle", 3, (NOUGHT, ONE))), [1, 2, 2, 3])
        self.assertEqual(self.rounds(FIGHT, ("settle", 2, (ONE,)), ("settle", 2, (HALF,))), [1, 1])

    def test_whole_rounds(self):
        """Point 78: a whole round behind a turn, or another one, ends just one round, if some switch is no tie."""
        source = random.Random(78)
        for net in [TURNER, CROSS, DOUBLE, BRIDGES, NO_TANKS] + [likely_net(source, 2, 4, 6) for _ in range(100)]:
            if not gated(net):
                continue
            lab = Lab(net, *some_start(source, net, some_state(source, net), 2))
            lab.go(("turn", some_feed_volts(source, (0, 1) + (2,) * (len(net[0]) - 2))))
            for count in range(1, 4):
                lab.go_all(whole_round(net))
                self.same(lab.rounds(), count)
