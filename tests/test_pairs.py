"""Points 56, 57 and 58: papers of two worlds that differ."""

import random
from fractions import Fraction

from everyohm.pairjudge import judge_pair
from everyohm.pairpapers import pair_paper
from everyohm.quotients import volt_reads
from everyohm.responses import response
from everyohm.volts import volts_of
from everyohm.worldkinds import leak_of, need, spill_of
from bads import bad_numbers, bads
from helpers import BARE, CROSS, FIGHT, JUNK, LADDER, STORE, TURNER, Case
from nets import likely_net, some_state, some_world
from slowpapers import as_lists, changes, one_as_true, replaced, slow_pair_judge
from slowranks import pair_of, slow_volts, tanks_of

ROOMS, CHARGES = ((9, 1),), ((0, 1), (1, 1), (0, 1))
ONE = (3, ((27, 1), (9, 1)), ROOMS, CHARGES)
OTHER = (3, ((9, 1), (27, 1)), ROOMS, CHARGES)
LOW, UP = ((0, 1), (1, 1), (1, 4)), ((0, 1), (1, 1), (3, 4))
QUESTION = {"net": FIGHT, "positions": (1, 1), "held": (0, 1, 0), "tank": 2}


def volts_in(net, world):
    return tuple(pair_of(volt) for volt in slow_volts(net, *world[1:]))


class PairPapersTest(Case):
    def test_examples(self):
        self.gives(None, pair_paper, net=TURNER, positions=(1, 1), held=(0, 1, 1, 0), tank=3, base=12)
        self.same(pair_paper(FIGHT, (1, 1), (0, 1, 0), 2, 12)[2][0], 12)
        self.fails("NotUsable", ("base", -1), pair_paper, FIGHT, (1, 1), (0, 1, 0), 2, 3)

    def test_papers_are_taken(self):
        source = random.Random(56)
        papers = 0
        for _ in range(300):
            net = likely_net(source, 2, 5, 8)
            positions, held = some_state(source, net)
            base = need(net, 1) + source.choice((0, 0, 1, 10 ** 9))
            told = response(net, positions, held)
            for tank in tanks_of(net):
                paper = pair_paper(net, positions, held, tank, base)
                self.same(pair_paper(net=net, positions=positions, held=held, tank=tank, base=base), paper)
                self.assertEqual(paper is None, told[tank] != 2)
                if paper is not None:
                    papers += 1
                    self.assertEqual((paper[0][0], paper[2][0]), (base, base))
                    self.gives(True, judge_pair, net=net, positions=positions, held=held, tank=tank, paper=paper)
                    self.assertTrue(slow_pair_judge(net, positions, held, tank, paper))
        self.assertGreater(papers, 200)

    def test_the_base_at_its_bound(self):
        for net in (FIGHT, TURNER, LADDER, CROSS, STORE):
            positions = (1,) * len(net[2])
            held = (0, 1) + (2,) * (len(net[0]) + len(net[1]) - 2)
            least = need(net, 1)
            for tank in tanks_of(net):
                paper = pair_paper(net, positions, held, tank, least)
                self.assertEqual(paper is None, response(net, positions, held)[tank] != 2)
                for base in range(2, least):
                    self.fails("NotUsable", ("base", -1), pair_paper, net, positions, held, tank, base)

    def test_wrong_arguments(self):
        for net in (TURNER, CROSS, FIGHT):
            positions, held = some_state(random.Random(9), net)
            bad = dict(bads(net), base=bad_numbers(need(net, 1)) + [0, 1, need(net, 1) - 1])
            good = {"net": net, "positions": positions, "held": held, "tank": len(net[0]), "base": need(net, 1)}
            self.refuses(pair_paper, good, bad, ("net",))
            del good["base"]
            self.refuses(judge_pair, dict(good, paper=None), bads(net), ("net", "paper"))
        self.fails("NotUsable", ("tank", -1), pair_paper, BARE, (), (0, 1), 1, 2)


class JudgePairTest(Case):
    def test_examples(self):
        self.gives(True, judge_pair, **QUESTION, paper=pair_paper(FIGHT, (1, 1), (0, 1, 0), 2, 12))
        self.gives(True, judge_pair, **QUESTION, paper=(ONE, LOW, OTHER, UP))
        self.gives(False, judge_pair, **QUESTION, paper=(OTHER, UP, ONE, LOW))

    def test_bases_may_differ(self):
        five = (5, ((25, 1), (125, 1)), ((25, 1),), CHARGES)
        for paper in (
            (ONE, LOW, five, ((0, 1), (1, 1), (5, 6))),
            ((5, ((125, 1), (25, 1)), ((125, 1),), CHARGES), ((0, 1), (1, 1), (1, 6)), OTHER, UP),
            ((10 ** 9, ((10 ** 27, 1), (10 ** 18, 1)), ((10 ** 18, 1),), CHARGES), ((0, 1), (1, 1), (1, 10 ** 9 + 1)), OTHER, UP),
        ):
            self.gives(True, judge_pair, **QUESTION, paper=paper)

    def test_each_way_not_to_be_taken(self):
        for paper in (
            (ONE, LOW, ONE, LOW), (OTHER, UP, OTHER, UP), (ONE, UP, OTHER, LOW), (ONE, LOW, OTHER, LOW), (ONE, LOW, OTHER),
            (ONE, LOW, OTHER, UP, UP), [ONE, LOW, OTHER, UP], (list(ONE), LOW, OTHER, UP), (ONE, list(LOW), OTHER, UP), (ONE, OTHER),
            (LOW, ONE, UP, OTHER), (ONE, ((0, 1), (1, 1), (2, 8)), OTHER, UP), (ONE, LOW, OTHER, UP[:2]), (ONE, LOW, OTHER, UP + UP[:1]),
            # A flow, a room, a charge that does not fit; a base that makes the flows unfit.
            ((3, ((28, 1), (9, 1)), ROOMS, CHARGES), ((0, 1), (1, 1), (9, 37)), OTHER, UP),
            ((3, ONE[1], ((8, 1),), CHARGES), LOW, OTHER, UP), ((3, ONE[1], ROOMS, ((0, 1), (1, 1), (1, 9))), LOW, OTHER, UP),
            ((2,) + ONE[1:], LOW, OTHER, UP), ((1,) + ONE[1:], LOW, OTHER, UP), ((True,) + ONE[1:], LOW, OTHER, UP),
            # The volt reads neither, as the flows are nearly equal.
            ((3, ((26, 1), (9, 1)), ROOMS, CHARGES), ((0, 1), (1, 1), (9, 35)), OTHER, UP),
            (ONE, LOW, (3, ((9, 1), (26, 1)), ROOMS, CHARGES), ((0, 1), (1, 1), (26, 35))),
        ):
            self.gives(False, judge_pair, **QUESTION, paper=paper)
        self.gives(False, judge_pair, net=FIGHT, positions=(1, 1), held=(0, 1, 1), tank=2, paper=(ONE, LOW, OTHER, UP))
        charged = tuple(world[:3] + (((0, 1), (1, 1), (1, 1)),) for world in (ONE, OTHER))
        self.gives(True, judge_pair, net=FIGHT, positions=(1, 1), held=(0, 1, 1), tank=2, paper=(charged[0], LOW, charged[1], UP))

    def test_volts_off_in_one_place(self):
        source = random.Random(57)
        tried = 0
        for _ in range(60):
            net = likely_net(source, 2, 4, 6)
            positions, held = some_state(source, net)
            for tank in tanks_of(net):
                paper = pair_paper(net, positions, held, tank, need(net, 1))
                if paper is None:
                    continue
                for at in (1, 3):
                    for node, (top, bottom) in enumerate(paper[at]):
                        off = pair_of(Fraction(top * 7 + 1, bottom * 7 + 2))
                        if off != (top, bottom):
                            tried += 1
                            other = replaced(paper, at, replaced(paper[at], node, off))
                            self.same(judge_pair(net, positions, held, tank, other), False)
        self.assertGreater(tried, 300)

    def test_one_thing_changed(self):
        odd = (None, True, -1, 0, (), [], (0, 1), (1, 1), (1, 2), (2, 4), (10 ** 200, 1))
        for paper in ((ONE, LOW, OTHER, UP), pair_paper(FIGHT, (1, 1), (0, 1, 0), 2, 12)):
            taken = 0
            for other in changes(paper, odd):
                wanted = slow_pair_judge(FIGHT, (1, 1), (0, 1, 0), 2, other)
                taken += wanted
                self.same(judge_pair(FIGHT, (1, 1), (0, 1, 0), 2, other), wanted)
            self.assertLess(taken, 100)
            for other in list(one_as_true(paper)) + list(as_lists(paper)):
                self.same(judge_pair(FIGHT, (1, 1), (0, 1, 0), 2, other), False)

    def test_any_value(self):
        for thing in JUNK + ((None,) * 4, ((),) * 4, ((2, (), (), ()),) * 4, (ONE, None, OTHER, None), ONE, ("", "", "", "")):
            self.gives(False, judge_pair, **QUESTION, paper=thing)

    def test_random_worlds(self):
        source = random.Random(571)
        taken = 0
        for _ in range(400):
            net = likely_net(source, 1, 2, 3)
            positions, held = some_state(source, net)
            bases = (source.choice((2, 50, 10 ** 6)), source.choice((2, 50, 10 ** 6)))
            worlds = [some_world(source, net, positions, held, base) for base in bases]
            paper = (worlds[0], volts_of(net, *worlds[0][1:]), worlds[1], volts_in(net, worlds[1]))
            told = response(net, positions, held)
            for tank in tanks_of(net):
                wanted = (volt_reads(paper[1][tank]), volt_reads(paper[3][tank])) == (0, 1)
                self.same(judge_pair(net, positions, held, tank, paper), wanted)
                taken += wanted
                if wanted and min(bases) >= max(3 * leak_of(net), 3 * spill_of(net)):
                    self.assertEqual(told[tank], 2)
        self.assertGreater(taken, 20)

    def test_a_small_base_shows_nothing(self):
        # Four leaks of strength 1 outdo one switch of strength 2 while the base is small.
        net = (("low", "high"), (("p", 1),), (("tie", 2, -1, 1, 2),) + (("tie", 1, -1, 0, 2),) * 14)
        self.assertEqual(response(net, (1,) * 15, (0, 1, 0))[2], 1)
        flows = ((16, 1),) + ((8, 1),) * 14
        low = (2, flows, ((4, 1),), ((0, 1), (1, 1), (0, 1)))
        up = (50, ((50 ** 5, 1),) + ((50 ** 2, 1),) * 14, ((50 ** 2, 1),), ((0, 1), (1, 1), (0, 1)))
        paper = (low, volts_in(net, low), up, volts_in(net, up))
        self.gives(True, judge_pair, net=net, positions=(1,) * 15, held=(0, 1, 0), tank=2, paper=paper)
