"""Points 85 and 88: papers of benches, and what they show."""

import random

from everyohm.benchpapers import bench_paper, judge_bench
from everyohm.labrounds import whole_round
from everyohm.labs import Lab
from everyohm.searching import first_of, next_of, replay, run_bench
from everyohm.turning import turn
from everyohm.turnpapers import turn_paper
from everyohm.worldkinds import need
from bads import bad_numbers
from helpers import BARE, CROSS, DOUBLE, FIGHT, JUNK, STORE, TURNER, Case
from nets import likely_net
from slowbenches import slow_code, slow_first, slow_judge_bench, slow_notes, slow_run, some_bench
from slowformulas import slow_worth
from slowlabs import some_feed_volts, some_move, some_start
from slowpapers import as_lists, changes, one_as_true, replaced
from test_codes import NO_BENCHES
from test_searching import FAULTY, FREE

A, N, Q = ("at", "a"), ("at", "n"), ("at", "q")
GO, ZERO, ONE, X = ("go",), ("val", 0), ("val", 1), ("val", 2)
START = (((1, 2), (0, 1, 2, 2)), (0, 1, 2), ())
LOOP = ("b", (("set", "a", ZERO), GO, ("loop", (("any", ("n",)), ("set", "a", N), GO, ("want", "q", ("not", A))))))


def kept_bench(source, net):
    """Return a bench for the net that is kept, with its paper."""
    while True:
        bench = some_bench(source, net, notes=("mm", "nn"), most=4)
        told, _ = slow_run(net, bench, 60)
        if told[0] == "kept":
            return bench, bench_paper(net, bench, 60)


class BenchPapersTest(Case):
    def test_papers(self):
        source = random.Random(85)
        for net, bench in ((TURNER, FREE), (TURNER, LOOP), (BARE, ("b", (GO,))), (TURNER, ("b", ()))) + tuple(
                (net, kept_bench(source, net)[0]) for net in [likely_net(source, 2, 3, 5) for _ in range(60)]):
            told, made = slow_run(net, bench, 10 ** 6)
            wanted = tuple(
                tuple((one, turn_paper(net, one[0], one[1]) if row[0] == "go" else None) for one in table)
                for table, row in zip(told[1], slow_code(net, bench) + (("end",),)))
            self.gives(wanted, bench_paper, net=net, bench=bench, limit=max(1, made))
            self.gives(True, judge_bench, net=net, bench=bench, paper=wanted)
            self.assertTrue(slow_judge_bench(net, bench, wanted))
            if made > 1:
                self.fails("TooMany", (made - 1,), bench_paper, net, bench, made - 1)

    def test_errors(self):
        for bench in (("b", (("want", "q", ONE),)), ("b", (("set", "a", ZERO), GO, ("want", "q", ZERO)))):
            self.assertIn(run_bench(TURNER, bench, 99)[0], ("unsure", "broken"))
            self.fails("NotUsable", ("bench", -1), bench_paper, TURNER, bench, 99)
            self.fails("NotUsable", ("limit", -1), bench_paper, TURNER, bench, 0)
        self.fails("TooMany", (1,), bench_paper, TURNER, ("b", (GO, GO, ("want", "q", ONE))), 1)
        for (error, fields), bench in FAULTY:
            self.fails(error, fields, bench_paper, TURNER, bench, 1)
            self.fails(error, fields, judge_bench, TURNER, bench, None)
            self.fails(error, fields, judge_bench, paper=(), bench=bench, net=TURNER)
            self.fails("NotUsable", ("limit", -1), bench_paper, TURNER, bench, None)

    def test_wrong_arguments(self):
        for net in (TURNER, BARE):
            bad = {"bench": NO_BENCHES, "limit": bad_numbers(1), "paper": [None]}
            self.refuses(bench_paper, {"net": net, "bench": ("b", ()), "limit": 1}, bad, ("net",))
            self.refuses(judge_bench, {"net": net, "bench": ("b", ()), "paper": None}, bad, ("net", "paper"))


class JudgeBenchTest(Case):
    def judge(self, wanted, net, bench, paper):
        self.assertIs(slow_judge_bench(net, bench, paper), wanted)
        self.gives(wanted, judge_bench, net=net, bench=bench, paper=paper)

    def test_made_otherwise(self):
        paper = bench_paper(TURNER, LOOP, 99)
        # The sequence in a table does not matter, nor pairs that stand twice, nor more of them that are followed.
        self.judge(True, TURNER, LOOP, tuple(table[::-1] for table in paper))
        self.judge(True, TURNER, LOOP, tuple(table * 2 for table in paper))
        more = ((((1, 1), (0, 1, 1, 0)), (0, 1, 1), (0,)), None)
        self.judge(True, TURNER, LOOP, paper[:3] + (paper[3] + (more,),) + paper[4:])
        lone = (START, None), ((((1, 0), (0, 1, 0, 1)), (0, 1, 2), ()), None)
        self.judge(True, TURNER, ("b", ()), (lone,))
        self.judge(True, TURNER, ("b", ()), (lone[:1],))
        self.judge(False, TURNER, ("b", ()), (lone[1:],))
        self.judge(False, TURNER, ("b", ()), ((),))
        # A turn paper that stays higher shows a higher state, which must then be at the next place.
        bench = ("b", (("set", "a", ZERO), GO))
        (first, second, third) = bench_paper(TURNER, bench, 9)
        (configuration, proof), = second
        high = proof[:1]
        self.judge(False, TURNER, bench, (first, ((configuration, high),), third))
        last = ((high[0][0],) + configuration[1:], None)
        self.judge(True, TURNER, bench, (first, ((configuration, high),), (last,)))
        self.judge(True, TURNER, bench, (first, ((configuration, high), (configuration, proof)), third + (last,)))
        self.judge(False, TURNER, bench, (first, ((configuration, high), (configuration, proof)), third))

    def test_each_way_not_to_be_taken(self):
        paper = bench_paper(TURNER, LOOP, 99)
        for at, table in enumerate(paper):
            self.judge(False, TURNER, LOOP, replaced(paper, at, ()))
            self.judge(False, TURNER, LOOP, paper[:at] + paper[at + 1:])
            self.judge(False, TURNER, LOOP, paper[:at] + (table,) + paper[at:])
            self.judge(False, TURNER, LOOP, replaced(paper, at, list(table)))
            for place, (configuration, proof) in enumerate(table):
                if len(table) > 1 and at < len(paper):
                    self.judge(False, TURNER, LOOP, replaced(paper, at, table[:place] + table[place + 1:]))
                for pair in ((configuration,), (configuration, proof, None), [configuration, proof], (configuration, ()), (configuration, False), (None, proof), (configuration, 0)):
                    self.judge(False, TURNER, LOOP, replaced(paper, at, replaced(table, place, pair)))
        self.judge(False, TURNER, LOOP, paper + ((),))
        self.judge(False, TURNER, LOOP, list(paper))
        # A wish that is broken, or unsure, in a pair that nothing leads to.
        wish = len(slow_code(TURNER, LOOP)) - 2
        self.assertEqual(slow_code(TURNER, LOOP)[wish][0], "want")
        for state in (((1, 0), (0, 1, 0, 0)), ((1, 0), (0, 1, 0, 2))):
            extra = ((state, (0, 1, 0), (0,)), None)
            self.judge(False, TURNER, LOOP, replaced(paper, wish, paper[wish] + (extra,)))
        self.judge(False, TURNER, ("b", (("want", "q", ONE),)), (((START, None),),) * 2)
        self.judge(True, TURNER, ("b", (("want", "q", X),)), (((START, None),),) * 2)

    def test_one_thing_changed(self):
        source = random.Random(851)
        cases = [(TURNER, FREE, bench_paper(TURNER, FREE, 99))]
        for net in (STORE, FIGHT):
            cases.append((net,) + kept_bench(source, net))
        for net, bench, paper in cases:
            for other in changes(paper, (None, True, 0, 2, 3, (), [])):
                self.same(judge_bench(net, bench, other), slow_judge_bench(net, bench, other))
            for other in list(as_lists(paper)) + list(one_as_true(paper)):
                self.same(judge_bench(net, bench, other), False)

    def test_any_value(self):
        paper = bench_paper(TURNER, FREE, 99)
        for thing in JUNK + (paper[0], (paper,), (None,) * 5, ((),) * 5, (((),),) * 5, (((None, None),),) * 5, "abcde", ("a",) * 5, ((("a", None),),) * 5, (((START, None),),) * 5):
            self.gives(False, judge_bench, net=TURNER, bench=FREE, paper=thing)

    def test_random_papers(self):
        source = random.Random(852)
        seen = {True: 0, False: 0}
        for _ in range(150):
            net = likely_net(source, 2, 2, 4)
            bench, paper = kept_bench(source, net)
            for _ in range(4):
                at = source.randrange(len(paper))
                table = list(paper[at])
                pool = [pair for table in paper for pair in table]
                if source.random() < 0.6 and table:
                    del table[source.randrange(len(table))]
                if source.random() < 0.7:
                    table.append(source.choice(pool))
                other = replaced(paper, at, tuple(table))
                wanted = slow_judge_bench(net, bench, other)
                seen[wanted] += 1
                self.same(judge_bench(net, bench, other), wanted)
        self.assertGreater(min(seen.values()), 50)


class ShownByPapersTest(Case):
    def test_runs_keep_what_papers_show(self):
        """Point 88: in labs that run through a kept bench, nodes read the known worths at all wishes."""
        source = random.Random(88)
        wishes = turns = 0
        while wishes < 150:
            net = likely_net(source, 2, 3, 5)
            bench = some_bench(source, net, notes=("mm", "nn"), most=6)
            told, _ = slow_run(net, bench, 60)
            if told[0] != "kept":
                continue
            code = slow_code(net, bench)
            base = need(net, 20)
            configuration, place = slow_first(net, bench), 0
            lab = Lab(net, *some_start(source, net, configuration[0], base))
            for _ in range(20):
                if place == len(code):
                    break
                if code[place][0] == "go":
                    turns += 1
                    self.make_turn(source, lab, configuration)
                if lab.adrift() > 20:
                    break
                if code[place][0] == "want":
                    wishes += self.check_wish(net, bench, lab, code[place], configuration)
                place, configuration, _ = source.choice(next_of(net, bench, place, configuration))
        self.assertGreater(turns, 150)

    def make_turn(self, source, lab, configuration):
        """Let a lab make a turn with the feeds as set, with as many rounds as its paper has further pairs."""
        net, (state, feeds, _) = lab.net(), configuration
        free = [feed for feed, value in enumerate(feeds) if value == 2]
        lab.go(("turn", some_feed_volts(source, feeds)))
        moves = list(whole_round(net)) * (len(turn(net, state, feeds)[1]) - 1)
        for _ in range(source.randint(0, 3)):
            moves.insert(source.randint(0, len(moves)), some_move(source, net, lab.start()[0], free))
        lab.go_all(tuple(move for move in moves if move is not None))

    def check_wish(self, net, bench, lab, row, configuration):
        """Check that a node reads the worth that is wished, if it is known; return whether it is."""
        state, _, values = configuration
        names = net[0] + tuple(name for name, _ in net[1]) + slow_notes(bench)
        wanted = dict(zip(names, state[1] + values))
        value = slow_worth(row[2], tuple(wanted.items()))
        if value != 2:
            self.assertEqual(lab.reads(row[1]), value)
        return value != 2

    def test_examples_of_use(self):
        for net in (TURNER, DOUBLE, CROSS):
            bench = ("b", (GO, ("want", "low", ZERO)))
            paper = bench_paper(net, bench, 9)
            self.same(paper[0][0][0], first_of(net, bench))
            self.same(paper[-1][0][0], replay(net, bench, ())[1])
