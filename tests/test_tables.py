"""Points 52 to 55 and 58: papers of tables, and what their judges take."""

import itertools
import random

from everyohm.firmpapers import firm_paper, judge_firm
from everyohm.maypapers import judge_may, may_paper
from everyohm.responses import response
from everyohm.tablejudge import judge_tables
from everyohm.tablepapers import table_paper
from everyohm.tables import firm, may
from everyohm.values import is_above_all
from bads import bads, near_row
from helpers import BARE, CROSS, FIGHT, JUNK, LADDER, NETS, STORE, TURNER, Case, junk_but
from nets import likely_net, some_state
from slowpapers import (
    as_lists, changes, is_column, one_as_true, replaced, slow_firm_judge, slow_may_judge, slow_tables_judge,
)

TWO = (("low", "high"), (("p", 1), ("q", 2)), (("tie", 3, -1, 2, 3),))
ODD = (None, True, False, -1, -2, 0, 1, 99, 10 ** 300, "", (), [], (0,))
# Any values that a judge must bear, beside all junk.
ANY = JUNK + (
    ((), (), ()), ((), (), (), (), ()), ((5,), (0,), (0,), 1), [(5,), (0,), (0,)], ((5,), (0,), [0]), ((5,), (0.0 == 0,), (0,)),
    (((((((((((5,),),),),),),),),),),), tuple(range(5000)), ((5, 5), (0, 0), (0, 0)), ((5,), (10 ** 300,), (0,)), ((5,), (-2,), (0,)),
    ((5,), ("0",), (0,)), ((5,), ((0,),), (0,)), ((5,), (None,), (0,)), ((-1,), (0,), (0,)), ((5,), (0,), (-1,)), ("5", "0", "0"),
)


def some_paper(source, net, positions, paper):
    """Return a firm paper with some numbers, parents and steps that differ from a good one."""
    many = len(net[1])
    ranks, parents, steps = (list(row) for row in paper)
    for _ in range(source.randint(0, 3)):
        at = source.randrange(many)
        what = source.randrange(3)
        if what == 0:
            ranks[at] = max(0, ranks[at] + source.choice((-4, -1, -1, 1, 5)))
        elif what == 1:
            parents[at] = source.randint(-2, len(net[2]))
        else:
            steps[at] = source.randint(0, many)
    return tuple(ranks), tuple(parents), tuple(steps)


def bad_columns(net):
    """Return what is no column of the net."""
    return junk_but(lambda thing: is_column(net, thing)) + near_row((5,) * len(net[1]), (-1, None, True, "1", (1,)))


class FirmPapersTest(Case):
    def test_examples(self):
        self.gives((6,), judge_firm, net=TURNER, positions=(1, 1), paper=firm_paper(TURNER, (1, 1)))
        self.gives((5,), judge_firm, net=TURNER, positions=(1, 2), paper=((5,), (0,), (0,)))
        self.gives(None, judge_firm, net=TURNER, positions=(1, 2), paper=((6,), (1,), (0,)))
        self.gives((2, 2), judge_firm, net=TWO, positions=(1,), paper=((2, 2), (0, -1), (1, 0)))
        self.gives(None, judge_firm, net=TWO, positions=(1,), paper=((7, 7), (0, 0), (1, 0)))

    def test_papers_are_taken_and_exact(self):
        source = random.Random(52)
        for net in NETS + tuple(likely_net(source, 2, 6, 9) for _ in range(300)):
            positions, _ = some_state(source, net)
            paper = firm_paper(net, positions)
            self.same(firm_paper(net=net, positions=positions), paper)
            self.same(slow_firm_judge(net, positions, paper), firm(net, positions)[len(net[0]):])
            self.gives(paper[0], judge_firm, net=net, positions=positions, paper=paper)

    def test_each_bound(self):
        for wanted, paper in (
            ((5,), ((5,), (0,), (0,))), ((0,), ((0,), (0,), (9,))), (None, ((6,), (0,), (0,))), ((1,), ((1,), (-1,), (0,))),
            (None, ((2,), (-1,), (0,))), ((0,), ((0,), (-1,), (10 ** 300,))), (None, ((5,), (1,), (0,))), (None, ((5,), (2,), (0,))),
            (None, ((0,), (-2,), (0,))), (None, ((0,), (10 ** 300,), (0,))),
        ):
            self.gives(wanted, judge_firm, net=TURNER, positions=(1, 2), paper=paper)
            self.gives(wanted, judge_firm, net=TURNER, positions=(1, 0), paper=paper)
        self.gives((6,), judge_firm, net=TURNER, positions=(1, 1), paper=((6,), (1,), (0,)))
        self.gives(None, judge_firm, net=TURNER, positions=(1, 1), paper=((7,), (1,), (0,)))
        # The number of the other end bounds that of the tank; its step must be smaller.
        for wanted, paper in (
            ((6, 5), ((6, 5), (0, 1), (0, 1))), (None, ((6, 5), (0, 1), (1, 1))), (None, ((6, 5), (0, 1), (2, 1))),
            (None, ((4, 5), (0, 1), (0, 1))), ((4, 4), ((4, 4), (0, 1), (0, 1))), (None, ((6, 6), (0, 1), (0, 1))),
            ((2, 2), ((2, 2), (1, -1), (8, 7))), (None, ((2, 2), (1, -1), (7, 7))), (None, ((2, 2), (1, 1), (1, 0))),
            (None, ((2, 2), (1, 1), (0, 0))), (None, ((6, 5), (0, 0), (0, 1))), (None, ((6, 3), (0, -1), (0, 1))),
            ((1, 2), ((1, 2), (-1, -1), (0, 0))), ((0, 0), ((0, 0), (-1, -1), (0, 0))), (None, ((6, 5), (1, 1), (0, 1))),
        ):
            self.gives(wanted, judge_firm, net=LADDER, positions=(1, 1), paper=paper)

    def test_rings_of_parents(self):
        ring = (("low", "high"), (("p", 1), ("q", 1), ("r", 1)), (("tie", 1, -1, 2, 3), ("tie", 1, -1, 3, 4), ("tie", 1, -1, 4, 2)))
        for ranks in ((5, 5, 5), (1, 1, 1), (0, 0, 0)):
            for steps in itertools.product(range(3), repeat=3):
                for parents in ((2, 0, 1), (0, 1, 2), (0, 0, -1), (2, -1, 2)):
                    self.gives(None, judge_firm, net=ring, positions=(1, 1, 1), paper=(ranks, parents, steps))

    def test_against_the_sentences(self):
        source = random.Random(521)
        taken = 0
        for _ in range(2500):
            net = likely_net(source, 2, 4, 6)
            positions, _ = some_state(source, net)
            paper = some_paper(source, net, positions, firm_paper(net, positions))
            wanted = slow_firm_judge(net, positions, paper)
            taken += wanted is not None
            self.same(judge_firm(net, positions, paper), wanted)
            if wanted is not None:
                self.assertTrue(all(one <= other for one, other in zip(wanted, firm(net, positions)[len(net[0]):])))
        self.assertTrue(200 < taken < 2300)

    def test_one_thing_changed(self):
        for net, positions in ((TURNER, (1, 1)), (LADDER, (1, 1)), (TWO, (1,)), (FIGHT, (1, 1)), (STORE, (2,))):
            paper = firm_paper(net, positions)
            for other in changes(paper, ODD):
                self.same(judge_firm(net, positions, other), slow_firm_judge(net, positions, other))
            for other in list(one_as_true(paper)) + list(as_lists(paper)):
                self.same(judge_firm(net, positions, other), None)

    def test_any_value(self):
        for thing in ANY:
            for net, positions in ((TURNER, (1, 1)), (BARE, ()), (STORE, (1,)), (FIGHT, (1, 1))):
                self.same(judge_firm(net, positions, thing), slow_firm_judge(net, positions, thing))

    def test_edges(self):
        self.gives(((), (), ()), firm_paper, net=BARE, positions=())
        self.gives((), judge_firm, net=BARE, positions=(), paper=((), (), ()))
        lone = (("low", "high"), (("p", 3),), (("tie", 6, -1, 0, 1),))
        for parent in range(-3, 3):
            for rank in range(5):
                wanted = (rank,) if parent == -1 and rank <= 3 else None
                self.gives(wanted, judge_firm, net=lone, positions=(1,), paper=((rank,), (parent,), (0,)))
        self.assertEqual(firm_paper(lone, (1,))[:2], ((3,), (-1,)))

    def test_wrong_arguments(self):
        for net in (TURNER, CROSS, FIGHT):
            good = {"net": net, "positions": (1,) * len(net[2])}
            self.refuses(firm_paper, good, bads(net), ("net",))
            self.refuses(judge_firm, dict(good, paper=None), bads(net), ("net", "paper"))


class MayPapersTest(Case):
    def test_examples(self):
        question = {"net": TURNER, "positions": (1, 2), "held": (0, 1, 2, 2), "value": 1}
        self.gives((5,), may_paper, **question)
        self.gives((8,), judge_may, **question, ranks=(5,), paper=(8,))
        self.gives(None, judge_may, **question, ranks=(5,), paper=(4,))
        self.gives((0,), judge_may, **question, ranks=(6,), paper=(0,))

    def test_papers(self):
        source = random.Random(53)
        for net in NETS + tuple(likely_net(source, 2, 6, 9) for _ in range(200)):
            positions, held = some_state(source, net)
            ranks = firm(net, positions)[len(net[0]):]
            for value in (0, 1):
                wanted = may(net, positions, held, value)[len(net[0]):]
                question = {"net": net, "positions": positions, "held": held, "value": value}
                self.gives(wanted, may_paper, **question)
                self.gives(wanted, judge_may, **question, ranks=ranks, paper=wanted)
                for at, number in enumerate(wanted):
                    if number > 0:
                        self.gives(None, judge_may, **question, ranks=ranks, paper=replaced(wanted, at, number - 1))

    def test_each_bound(self):
        stored = {"net": STORE, "positions": (2,), "held": (0, 1, 0, 2, 1)}
        for value, rank, least in (
            # Its own charge, of rank 1, counts at the ranks 0 and 1; the feed's road of rank 5 up to 5.
            (1, 0, 1), (1, 1, 1), (1, 2, 0), (0, 0, 5), (0, 1, 5), (0, 5, 5), (0, 6, 0),
        ):
            for number in range(7):
                wanted = (number,) if number >= least else None
                self.gives(wanted, judge_may, **stored, value=value, ranks=(rank,), paper=(number,))
        for number in range(7):
            wanted = (number,) if number >= 1 else None
            closed = {"net": STORE, "positions": (0,), "held": (0, 1, 0, 2, 1)}
            self.gives(wanted, judge_may, **closed, value=1, ranks=(1,), paper=(number,))
            self.gives((number,), judge_may, **closed, value=0, ranks=(1,), paper=(number,))

    def test_against_the_sentences(self):
        source = random.Random(531)
        taken = 0
        for _ in range(2500):
            net = likely_net(source, 2, 4, 6)
            positions, held = some_state(source, net)
            value = source.randrange(2)
            firms = firm(net, positions)[len(net[0]):]
            ranks = tuple(max(0, rank + source.choice((0, 0, 0, -3, -1, 1, 2))) for rank in firms)
            paper = tuple(
                max(0, number + source.choice((0, 0, 0, 0, -1, 1, 4))) for number in may_paper(net, positions, held, value))
            wanted = slow_may_judge(net, positions, held, value, ranks, paper)
            self.same(judge_may(net, positions, held, value, ranks, paper), wanted)
            taken += wanted is not None
            if wanted is not None and all(rank <= firm_rank for rank, firm_rank in zip(ranks, firms)):
                least = may(net, positions, held, value)[len(net[0]):]
                self.assertTrue(all(one >= other for one, other in zip(wanted, least)))
        self.assertTrue(300 < taken < 2200)

    def test_with_other_ranks_it_may_be_smaller(self):
        self.assertEqual(may_paper(FIGHT, (1, 1), (0, 1, 0), 1), (5,))
        self.gives((0,), judge_may, net=FIGHT, positions=(1, 1), held=(0, 1, 0), value=1, ranks=(6,), paper=(0,))

    def test_one_thing_changed(self):
        for net, positions, held in (
            (TURNER, (1, 2), (0, 1, 2, 1)), (LADDER, (1, 1), (0, 1, 0, 1)), (FIGHT, (1, 1), (0, 1, 2)), (BARE, (), (0, 1)),
        ):
            ranks = firm(net, positions)[len(net[0]):]
            for value in (0, 1):
                paper = may_paper(net, positions, held, value)
                for other in list(changes(paper, ODD)) + list(one_as_true(paper)) + list(as_lists(paper)) + list(ANY):
                    wanted = slow_may_judge(net, positions, held, value, ranks, other)
                    self.same(judge_may(net, positions, held, value, ranks, other), wanted)

    def test_wrong_arguments(self):
        for net in (TURNER, CROSS, FIGHT):
            positions, held = some_state(random.Random(7), net)
            good = {"net": net, "positions": positions, "held": held, "value": 1}
            self.refuses(may_paper, good, bads(net), ("net",))
            bad = dict(bads(net), ranks=bad_columns(net))
            self.refuses(judge_may, dict(good, ranks=(0,) * len(net[1]), paper=1), bad, ("net", "paper"))


class TablePapersTest(Case):
    def test_examples(self):
        self.same(table_paper(TURNER, (1, 1), (0, 1, 1, 1))[3:], ((6,), (0,)))
        question = {"net": TURNER, "positions": (1, 1), "held": (0, 1, 1, 1)}
        self.gives((0, 1, 1, 0), judge_tables, **question, paper=((6,), (1,), (0,), (6,), (0,)))
        self.gives((0, 1, 1, 2), judge_tables, **question, paper=((1,), (-1,), (0,), (6,), (5,)))
        self.gives(None, judge_tables, **question, paper=((1,), (-1,), (0,), (6,), (0,)))

    def test_papers_show_the_response(self):
        """G10: for each response there is a paper that shows just what the functions tell."""
        source = random.Random(54)
        for net in NETS + tuple(likely_net(source, 3, 6, 9) for _ in range(300)):
            positions, held = some_state(source, net)
            paper = table_paper(net, positions, held)
            self.same(table_paper(net=net, positions=positions, held=held), paper)
            self.assertEqual(len(paper), 5)
            self.same(judge_firm(net, positions, paper[:3]), firm(net, positions)[len(net[0]):])
            self.same(paper[3:], tuple(may_paper(net, positions, held, value) for value in (0, 1)))
            self.gives(response(net, positions, held), judge_tables, net=net, positions=positions, held=held, paper=paper)

    def test_what_is_taken_is_true(self):
        """G10: what is taken is above the response, whoever made the paper."""
        source = random.Random(55)
        taken = 0
        for _ in range(2500):
            net = likely_net(source, 2, 3, 5)
            positions, held = some_state(source, net)
            paper = list(table_paper(net, positions, held))
            if source.random() < 0.5:
                paper[:3] = some_paper(source, net, positions, paper[:3])
            for at in (3, 4):
                paper[at] = tuple(max(0, number + source.choice((0, 0, 0, 0, 0, -1, 1, -5))) for number in paper[at])
            paper = tuple(paper)
            wanted = slow_tables_judge(net, positions, held, paper)
            self.same(judge_tables(net, positions, held, paper), wanted)
            if wanted is not None:
                taken += 1
                self.same(is_above_all(wanted, response(net, positions, held)), True)
                self.assertFalse([1 for low, high in zip(*paper[3:]) if low == high == 0])
        self.assertTrue(200 < taken < 2300)

    def test_papers_made_otherwise(self):
        """A paper that says less than it could is taken, too."""
        source = random.Random(551)
        for _ in range(100):
            net = likely_net(source, 2, 4, 6)
            positions, held = some_state(source, net)
            many = len(net[1])
            paper = ((0,) * many, (-1,) * many, (9,) * many, (11,) * many, (12,) * many)
            self.same(judge_tables(net, positions, held, paper), held[:len(net[0])] + (2,) * many)

    def test_one_thing_changed(self):
        for net, positions, held in (
            (TURNER, (1, 1), (0, 1, 1, 1)), (LADDER, (1, 1), (0, 1, 0, 1)), (FIGHT, (1, 1), (0, 1, 2)), (STORE, (0,), (0, 1, 0, 2, 1)),
        ):
            paper = table_paper(net, positions, held)
            for other in list(changes(paper, ODD)):
                self.same(judge_tables(net, positions, held, other), slow_tables_judge(net, positions, held, other))
            for other in list(one_as_true(paper)) + list(as_lists(paper)):
                self.same(judge_tables(net, positions, held, other), None)

    def test_any_value(self):
        for thing in ANY:
            for net, positions, held in ((TURNER, (1, 1), (0, 1, 1, 1)), (BARE, (), (0, 1)), (FIGHT, (1, 1), (0, 1, 2))):
                self.same(judge_tables(net, positions, held, thing), slow_tables_judge(net, positions, held, thing))

    def test_without_tanks(self):
        no_tanks = (("low", "high", "a"), (), (("tie", 1, -1, 0, 2),))
        empty = ((), (), (), (), ())
        for net, positions, held in ((BARE, (), (0, 1)), (no_tanks, (1,), (0, 1, 2))):
            self.gives(empty, table_paper, net=net, positions=positions, held=held)
            self.gives(held, judge_tables, net=net, positions=positions, held=held, paper=empty)
            for other in changes(empty, ODD):
                if other != empty:
                    self.gives(None, judge_tables, net=net, positions=positions, held=held, paper=other)

    def test_wrong_arguments(self):
        for net in (TURNER, CROSS, FIGHT):
            positions, held = some_state(random.Random(8), net)
            good = {"net": net, "positions": positions, "held": held}
            self.refuses(table_paper, good, bads(net), ("net",))
            self.refuses(judge_tables, dict(good, paper=[]), bads(net), ("net", "paper"))
