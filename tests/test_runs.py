"""Points 75 to 78: runs, what judge_run takes, runs that show unknown tanks."""

import random

from everyohm.flickers import is_single, shown_tanks
from everyohm.groups import groups_of
from everyohm.labrounds import whole_turn
from everyohm.labs import Lab
from everyohm.moves import reason_of, whole_settling
from everyohm.runjudge import judge_run
from everyohm.runs import run_of
from everyohm.showruns import shown_run
from everyohm.starts import is_known_state, unknown_start
from everyohm.turning import after, spread
from everyohm.worldkinds import leak_of, need, spill_of
from bads import bads
from helpers import BARE, CROSS, DOUBLE, FIGHT, JUNK, LADDER, STORE, TURNER, Case
from nets import known_state, likely_net, some_feeds, some_state
from slowlabs import SlowLab, slow_need, slow_run_judge, some_move, some_start
from slowpapers import as_lists, changes, one_as_true, replaced
from slowranks import pair_of, tanks_of

HALF, NOUGHT, ONE = (1, 2), (0, 1), (1, 1)
REST = ((1, 0), (0, 1, 0, 1))
START = (4, ((16, 1), (256, 1)), ((16, 1),), (NOUGHT, ONE, NOUGHT, ONE), ((16, 1), NOUGHT))
MOVES = (("turn", (NOUGHT, ONE, ONE)), ("read", 1, NOUGHT), ("settle", 3, (ONE,)))
QUESTION = {"net": TURNER, "state": REST, "feeds": (0, 1, 1), "tank": 3}


class RunOfTest(Case):
    def test_runs(self):
        for moves in ((), MOVES, MOVES * 2, MOVES[1:]):
            for lab in (run_of(TURNER, (START, moves)), run_of(run=(START, moves), net=TURNER)):
                wanted = Lab(TURNER, *START)
                wanted.go_all(moves)
                self.same(
                    (lab.volts(), lab.flows(), lab.rounds(), lab.settlings(), lab.start(), lab.net()),
                    (wanted.volts(), wanted.flows(), wanted.rounds(), wanted.settlings(), START, TURNER))
        self.same(run_of(BARE, ((2, (), (), (NOUGHT, ONE), ()), (("turn", (NOUGHT, ONE)),))).volts(), (NOUGHT, ONE))

    def test_against_fractions(self):
        source = random.Random(75)
        for _ in range(60):
            net = likely_net(source, 2, 4, 6)
            start = some_start(source, net, some_state(source, net), source.choice((2, 9)))
            moves = tuple(some_move(source, net, start[0], list(range(2, len(net[0])))) for _ in range(source.randint(0, 20)))
            other = SlowLab(net, *start)
            for move in moves:
                other.go(move)
            lab = run_of(net, (start, moves))
            self.same((lab.volts(), lab.rounds()), (tuple(pair_of(volt) for volt in other.volts), other.rounds()))

    def test_what_is_no_run(self):
        odd = ((), (START,), (START, MOVES, 1), (MOVES, START), (START, list(MOVES)), (list(START), MOVES), (START, None), (None, ()), (START[:4], ()))
        odd += ((START + (1,), ()), ((True,) + START[1:], ()), ((3,) + START[1:], MOVES), (START, "turn"), [START, MOVES], (START, {"turn": 1}))
        for thing in JUNK + odd + tuple(
                (replaced(START, at, thing), MOVES) for at in range(5) for thing in (None, (), 1, (NOUGHT,), ((NOUGHT,),), list(START[1]))):
            self.fails("NotUsable", ("run", -1), run_of, TURNER, thing)
            self.fails("NotUsable", ("run", -1), run_of, run=thing, net=TURNER)

    def test_moves_that_cannot_be_made(self):
        for move in (None, ("turn",), ("feed", 1, ONE), ("feed", 2, None), ("read", 0, NOUGHT), ("read", 1, (513, 0)), ("settle", 3, ()), (), []):
            reason = reason_of(TURNER, 4, move)
            for moves in ((move,), MOVES + (move,), (move, None), MOVES + (move, ("turn",))):
                self.fails("InvalidMove", (move, reason), run_of, TURNER, (START, moves))


class JudgeRunTest(Case):
    def test_examples(self):
        self.gives(True, judge_run, **QUESTION, paper=shown_run(TURNER, REST, (0, 1, 1)))

    def test_each_condition(self):
        self.assertEqual(need(TURNER, 0), 4)
        self.gives(True, judge_run, **QUESTION, paper=(START, MOVES))
        nearly = (3, ((9, 1), (81, 1)), ((9, 1),), START[3], ((9, 1), NOUGHT))
        turn, read, settle = MOVES
        for paper in (
            # The base one below need; a start that does not fit the state, or is none.
            (nearly, MOVES), (replaced(START, 3, (NOUGHT, ONE, NOUGHT, (99, 100))), MOVES), (replaced(START, 3, (NOUGHT, ONE, HALF, ONE)), MOVES),
            (replaced(START, 4, ((16, 1), (256, 1))), MOVES), (replaced(START, 4, ((16, 1), (1, 9))), MOVES), (replaced(START, 1, ((16, 1), (9, 1))), MOVES),
            # No turn, a turn later, another turn, moves that cannot be made, no tuples.
            (START, ()), (START, MOVES[1:]), (START, (read,) + MOVES), (START, MOVES + (turn,)), (START, MOVES + (None,)), (START, MOVES + (("read", 0, NOUGHT),)),
            (START, MOVES + (("settle", 3, ((2, 1),)),)), (START, list(MOVES)), [START, MOVES], (START, MOVES, ()), (START,), (list(START), MOVES),
            (START, (list(turn), read, settle)),
            # A feed that is told 1 has another volt, at the turn or later.
            (START, (("turn", (NOUGHT, ONE, NOUGHT)), read, settle)), (START, (("turn", (NOUGHT, ONE, (3, 4))), read, settle)),
            (START, MOVES + (("feed", 2, NOUGHT),)), (START, (("turn", (NOUGHT, ONE, HALF)), ("feed", 2, ONE), read, settle)),
            # It never reads 0, or goes a part of the way alone.
            (START, (turn,)), (START, (turn, settle)), (START, (turn, read)), (START, (turn, read, ("settle", 3, (HALF,)))),
        ):
            self.gives(False, judge_run, **QUESTION, paper=paper)
            self.assertFalse(slow_run_judge(**QUESTION, paper=paper))
        for moves in (MOVES + (("feed", 2, ONE),), MOVES + MOVES[1:], (turn, settle, settle, read, settle), (turn, read, ("settle", 3, (HALF,)), ("settle", 3, (HALF,)), settle)):
            self.gives(True, judge_run, **QUESTION, paper=(START, moves))
        # Told 2, the feed may have any volt; told 0, the tank stays.
        free = (("turn", (NOUGHT, ONE, HALF)), ("read", 1, (1024, 1)), settle, ("feed", 2, NOUGHT))
        self.gives(True, judge_run, **dict(QUESTION, feeds=(0, 1, 2)), paper=(START, free))
        self.gives(False, judge_run, **dict(QUESTION, feeds=(0, 1, 1)), paper=(START, free))
        self.gives(False, judge_run, **dict(QUESTION, feeds=(0, 1, 0)), paper=(START, MOVES))
        self.gives(False, judge_run, **dict(QUESTION, state=((1, 0), (0, 1, 0, 0))), paper=(START, MOVES))

    def test_the_first_volts_do_not_count(self):
        """What the tank reads ahead of the turn's end is not behind a move."""
        start = replaced(START, 4, ((16, 1), (256, 1)))
        state = ((1, 1), (0, 1, 0, 1))
        settle = MOVES[2]
        self.gives(True, judge_run, net=TURNER, state=state, feeds=(0, 1, 0), tank=3, paper=(start, (("turn", (NOUGHT, ONE, NOUGHT)), settle)))
        self.gives(False, judge_run, net=TURNER, state=state, feeds=(0, 1, 0), tank=3, paper=(start, (settle, ("turn", (NOUGHT, ONE, NOUGHT)))))

    def test_a_run_without_a_turn(self):
        """All feeds fit and the tank reads both, but no turn has begun."""
        question = {"net": TURNER, "state": ((1, 1), (0, 1, 0, 1)), "feeds": (0, 1, 0), "tank": 3}
        start = replaced(START, 4, ((16, 1), (256, 1)))
        moves = (("settle", 3, (NOUGHT,)), ("settle", 3, (ONE,)))
        self.gives(False, judge_run, **question, paper=(start, moves))
        self.gives(True, judge_run, **question, paper=(start, (("turn", (NOUGHT, ONE, NOUGHT)),) + moves))

    def test_an_unknown_state(self):
        start = (4, ((16, 1), (256, 1)), ((16, 1),), (NOUGHT, ONE, HALF, HALF), ((16, 1), (5, 1)))
        moves = (("turn", (NOUGHT, ONE, NOUGHT)), ("read", 1, NOUGHT), ("settle", 3, (ONE,)), ("feed", 2, ONE), ("read", 1, NOUGHT), ("settle", 3, (ONE,)))
        self.gives(True, judge_run, net=TURNER, state=unknown_start(TURNER), feeds=(0, 1, 2), tank=3, paper=(start, moves))
        self.gives(False, judge_run, net=TURNER, state=unknown_start(TURNER), feeds=(0, 1, 0), tank=3, paper=(start, moves))

    def test_need_counts_settlings_adrift(self):
        # A small tank p and a great tank q, joined by a switch that a closes: each settling of both is adrift.
        net = (("low", "high", "a"), (("p", 1), ("q", 2)), (("one", 1, 2, 3, 4),))
        self.assertEqual((leak_of(net), spill_of(net)), (0, 1))
        for many in range(1, 5):
            for base, wanted in ((4 * many, True), (4 * many - 1, False)):
                start = (base, ((base ** 2, 1),), ((base ** 2, 1), (base ** 4, 1)), (NOUGHT, ONE, NOUGHT, ONE, NOUGHT), (NOUGHT,))
                moves = (("turn", (NOUGHT, ONE, ONE)), whole_settling(net, 3), ("read", 0, NOUGHT)) + (whole_settling(net, 3),) * many
                question = {"net": net, "state": ((0,), (0, 1, 0, 1, 0)), "feeds": (0, 1, 1), "tank": 3}
                self.gives(wanted, judge_run, **question, paper=(start, moves))
                self.same(slow_run_judge(**question, paper=(start, moves)), wanted)

    def test_one_thing_changed(self):
        taken = 0
        for other in changes((START, MOVES), (None, True, -1, 0, (), [], NOUGHT, ONE, HALF, (4096, 1), (2, 4))):
            wanted = slow_run_judge(**QUESTION, paper=other)
            taken += wanted
            self.same(judge_run(**QUESTION, paper=other), wanted)
        self.assertTrue(10 < taken < 100, taken)
        for other in list(as_lists((START, MOVES))) + list(one_as_true((START, MOVES))):
            self.gives(False, judge_run, **QUESTION, paper=other)

    def test_any_value(self):
        for thing in JUNK + ((START, None), (None, MOVES), (START, ("turn", MOVES)), ((), ()), (START, (("turn",),)), (START, ((),)), (START, ("t",)), (START, ([],))):
            self.gives(False, judge_run, **QUESTION, paper=thing)
            self.same(judge_run(FIGHT, ((1, 1), (0, 1, 0)), (0, 1), 2, thing), False)

    def test_random_runs(self):
        """Point 78: what is taken shows that the tank is 2 in the spread."""
        source = random.Random(76)
        taken = refused = 0
        for _ in range(700):
            net = likely_net(source, 2, 3, 5)
            state = known_state(source, net) if source.random() < 0.5 else some_state(source, net)
            feeds = some_feeds(source, net)
            base = slow_need(net, source.choice((0, 1, 3)))
            start = some_start(source, net, state, base)
            free = [feed for feed, value in enumerate(feeds) if value == 2]
            volts = tuple((source.randrange(2) if value == 2 else value, 1) for value in feeds)
            moves = [some_move(source, net, base, free) for _ in range(source.randint(1, 20))]
            moves = whole_turn(net, volts, source.randrange(2)) + tuple(moves)
            tank = source.choice(tanks_of(net))
            wanted = slow_run_judge(net, state, feeds, tank, (start, moves))
            self.same(judge_run(net, state, feeds, tank, (start, moves)), wanted)
            taken += wanted
            refused += not wanted
            if wanted:
                self.assertEqual(spread(net, state, feeds)[1][tank], 2)
        self.assertGreater(min(taken, refused), 50)

    def test_wrong_arguments(self):
        for net in (TURNER, CROSS, FIGHT):
            good = {"net": net, "state": unknown_start(net), "feeds": (0, 1) + (2,) * (len(net[0]) - 2), "tank": len(net[0]), "paper": None}
            self.refuses(judge_run, good, bads(net), ("net", "paper"))
        self.fails("NotUsable", ("tank", -1), judge_run, BARE, ((), (0, 1)), (0, 1), 2, None)


def tanks_to_show(net, state, feeds):
    """Return the tanks that a shown run is to show."""
    shown, middle = shown_tanks(net, state, feeds), spread(net, state, feeds)[1]
    tanks = list(shown)
    for group in groups_of(net):
        if not set(group) & set(shown):
            tanks += [tank for tank in group if state[1][tank] != 2 and middle[tank] == 2][:1]
    return sorted(tanks)


class ShownRunTest(Case):
    def test_examples(self):
        self.gives(shown_run(TURNER, REST, (0, 1, 1)), shown_run, **{name: QUESTION[name] for name in ("net", "state", "feeds")})

    def check_run(self, net, state, feeds):
        """Check that the run is taken for each tank that it is to show, and is a run of the turn alone."""
        run = shown_run(net, state, feeds)
        tanks = tanks_to_show(net, state, feeds)
        for tank in tanks:
            self.assertIs(judge_run(net, state, feeds, tank, run), True)
            self.assertTrue(slow_run_judge(net, state, feeds, tank, run))
        start, moves = run
        lab = SlowLab(net, *start)
        self.same((moves[0][0], [move[0] for move in moves].count("turn")), ("turn", 1))
        self.same([reason_of(net, start[0], move) for move in moves], [None] * len(moves))
        for move in moves:
            lab.go(move)
            self.assertTrue(all(value == 2 or lab.volts[feed] == value for feed, value in enumerate(feeds)))
        self.assertGreaterEqual(start[0], slow_need(net, lab.adrift))
        for position, whole, flow in zip(state[0], start[1], start[4]):
            self.same(flow, (NOUGHT, whole)[position])
        self.assertTrue(all(value == 2 or volt == (value, 1) for value, volt in zip(state[1], start[3])))
        return len(tanks), int(lab.adrift)

    def test_many_small_nets(self):
        """G8: in one run all these tanks read 0 and 1."""
        source = random.Random(77)
        counts = {}
        drifted = refused = 0
        while sum(counts.values()) < 700:
            net = likely_net(source, 2, 6, 9)
            state = known_state(source, net)
            if source.random() < 0.5:
                state = after(net, state, tuple(value if value < 2 else 0 for value in some_feeds(source, net)))
            feeds = some_feeds(source, net)
            if not is_known_state(net, state):
                self.fails("NotUsable", ("state", -1), shown_run, net, state, feeds)
            elif not is_single(net, state, feeds):
                refused += 1
                self.fails("NotUsable", ("feeds", -1), shown_run, net, state, feeds)
                self.fails("NotUsable", ("feeds", -1), shown_run, feeds=feeds, state=state, net=net)
            else:
                many, adrift = self.check_run(net, state, feeds)
                counts[many] = counts.get(many, 0) + 1
                drifted += adrift
        self.assertTrue(min(counts[0], counts[1], counts[2]) > 50 and counts[3] > 5, counts)
        self.assertGreater(drifted, 10)
        self.assertGreater(refused, 20)

    def test_rows_of_gates(self):
        """Each tank turns the next one, so they must be shown one after the other."""
        for many in (1, 2, 5, 10):
            switches = []
            for at in range(many):
                switches += [("tie", 1, -1, 1, 3 + at), ("one", 2, 2 + at, 0, 3 + at)]
            net = (("low", "high", "a"), tuple((f"t{at}", 1) for at in range(many)), tuple(switches))
            state = after(net, unknown_start(net), (0, 1, 0))
            for feeds in ((0, 1, 1), (0, 1, 2)):
                self.assertEqual(self.check_run(net, state, feeds)[0], many)

    def test_switches_that_must_read_before_their_gate_turns(self):
        # The position of the switch to q is not its reading: it must read before p turns.
        net = (("low", "high", "a"), (("p", 1), ("q", 1)), (("one", 2, 2, 0, 3), ("one", 1, 3, 1, 4), ("one", 1, 4, 0, 1)))
        state = ((0, 0, 0), (0, 1, 0, 1, 0))
        self.assertEqual(tanks_to_show(net, state, (0, 1, 1)), [3, 4])
        self.check_run(net, state, (0, 1, 1))
        # Here it must not: q can turn only behind p.
        state = ((0, 0, 0), (0, 1, 0, 0, 0))
        net = (net[0], net[1], (("one", 2, 2, 1, 3),) + net[2][1:])
        self.assertEqual(tanks_to_show(net, state, (0, 1, 1)), [3, 4])
        self.check_run(net, state, (0, 1, 1))

    def test_edges(self):
        for net, state, feeds in (
            (BARE, ((), (0, 1)), (0, 1)), (FIGHT, ((1, 1), (0, 1, 2)), (0, 1)), (FIGHT, ((1, 1), (0, 1, 0)), (0, 1)),
            (LADDER, ((1, 1), (0, 1, 0, 0)), (0, 1)), (LADDER, ((1, 1), (0, 1, 0, 2)), (0, 1)),
            (STORE, ((0,), (0, 1, 2, 2, 1)), (0, 1, 2, 2)), (STORE, ((1,), (0, 1, 2, 2, 1)), (0, 1, 2, 0)), (TURNER, REST, (0, 1, 0)),
            ((("low", "high", "a"), (), (("one", 1, 2, 0, 1),)), ((1,), (0, 1, 2)), (0, 1, 2)),
        ):
            self.check_run(net, state, feeds)

    def test_wrong_arguments(self):
        for net in (TURNER, CROSS, FIGHT):
            good = {"net": net, "state": known_state(random.Random(12), net), "feeds": None}
            good["feeds"] = good["state"][1][:len(net[0])]
            if not is_single(**good):
                good["feeds"] = (0, 1) + (0,) * (len(net[0]) - 2)
            self.refuses(shown_run, good, dict(bads(net), state=bads(net)["state"] + ([unknown_start(net)] if net != FIGHT else [])), ("net",))
        self.fails("NotUsable", ("state", -1), shown_run, DOUBLE, ((1, 0, 1, 1), (0, 1, 0, 2, 0)), (0, 1, 1))
        self.fails("NotUsable", ("state", -1), shown_run, DOUBLE, ((1, 2, 1, 1), (0, 1, 0, 1, 0)), None)
        # q and r hang together and are both shown.
        both = (("low", "high", "a"), (("q", 1), ("r", 1)), (
            ("tie", 1, -1, 1, 3), ("one", 2, 2, 0, 3), ("tie", 6, -1, 3, 4), ("one", 1, 3, 0, 1), ("one", 1, 4, 0, 1)))
        self.fails("NotUsable", ("feeds", -1), shown_run, both, ((1, 0, 1, 1, 1), (0, 1, 0, 1, 1)), (0, 1, 1))
        self.check_run(both, ((1, 0, 1, 1, 1), (0, 1, 0, 1, 1)), (0, 1, 0))
