"""Points 65, 66, 69 and 11 (G10): papers of turns, and what their judge takes."""

import random

from everyohm.starts import unknown_start
from everyohm.tablepapers import table_paper
from everyohm.turning import turn
from everyohm.turnjudge import judge_turn
from everyohm.turnpapers import turn_paper
from bads import bads
from helpers import BARE, CROSS, DOUBLE, FIGHT, JUNK, STORE, TURNER, Case
from nets import known_state, likely_net, some_feeds, some_state
from slowpapers import as_lists, changes, one_as_true, replaced
from slowturns import above, slow_turn_judge

REST = ((1, 0), (0, 1, 0, 1))
BEFORE = ((1, 0, 1, 1), (0, 1, 0, 1, 0))
# A part to put in the place of each other one.
ODD = (None, True, False, -1, 0, 1, 2, 3, "", (), [])


def some_question(source, feeds=2, tanks=4, switches=6):
    net = likely_net(source, feeds, tanks, switches)
    state = known_state(source, net) if source.random() < 0.5 else some_state(source, net)
    return {"net": net, "state": state, "feeds": some_feeds(source, net)}


def raised(source, values, start):
    """Return values with some of them, from a place on, replaced by 2."""
    return values[:start] + tuple(2 if source.random() < 0.3 else value for value in values[start:])


def changed_paper(source, net, paper):
    """Return a paper whose states, in places, are higher or lower, with tables made for them or kept."""
    rows, first = [], len(net[0])
    for at, ((positions, held), tables) in enumerate(paper):
        if source.random() < 0.5:
            held = raised(source, held, first)
        if at == 0 and source.random() < 0.5:
            positions = tuple(one if switch[0] == "tie" else two for switch, one, two in zip(net[2], positions, raised(source, positions, 0)))
        if at > 0 and source.random() < 0.7:
            reads = rows[-1][0][1]
            positions = tuple(
                1 if kind == "tie" else reads[gate] if kind == "one" else (1, 0, 2)[reads[gate]] for kind, _, gate, _, _ in net[2])
        if held[first:] and source.random() < 0.2:
            held = replaced(held, source.randrange(first, len(held)), source.randrange(3))
        if source.random() < 0.9:
            tables = table_paper(net, positions, rows[-1][0][1] if at else held)
        rows.append(((positions, held), tables))
    return tuple(rows[:source.randint(1, len(rows))]) if source.random() < 0.3 else tuple(rows)


class TurnPapersTest(Case):
    def test_examples(self):
        paper = turn_paper(TURNER, REST, (0, 1, 1))
        self.gives((((1, 1), (0, 1, 1, 0)), 1), judge_turn, net=TURNER, state=REST, feeds=(0, 1, 1), paper=paper)

    def test_papers_are_taken_and_exact(self):
        source = random.Random(65)
        deep = 0
        for _ in range(300):
            question = some_question(source)
            _, states = turn(**question)
            paper = turn_paper(**question)
            self.gives(paper, turn_paper, **question)
            self.same(tuple(pair[0] for pair in paper), states)
            self.same(slow_turn_judge(**question, paper=paper), (states[-1], len(states) - 1))
            self.gives((states[-1], len(states) - 1), judge_turn, **question, paper=paper)
            deep += len(states) > 2
        self.assertGreater(deep, 20)

    def test_edges(self):
        tables = ((), (), (), (), ())
        state = ((), (0, 1))
        self.gives(((state, tables),), turn_paper, net=BARE, state=state, feeds=(0, 1))
        self.gives((state, 0), judge_turn, net=BARE, state=state, feeds=(0, 1), paper=((state, tables),))
        self.gives((state, 2), judge_turn, net=BARE, state=state, feeds=(0, 1), paper=((state, tables),) * 3)
        self.gives(None, judge_turn, net=BARE, state=state, feeds=(0, 1), paper=())
        bridge = (("low", "high", "a"), (), (("one", 1, 2, 0, 1),))
        before, first, last = ((0,), (0, 1, 0)), ((2,), (0, 1, 1)), ((1,), (0, 1, 1))
        question = {"net": bridge, "state": before, "feeds": (0, 1, 1)}
        self.gives(((first, tables), (last, tables)), turn_paper, **question)
        for wanted, rows in (
            ((last, 1), (first, last)), ((last, 2), (first, last, last)), ((first, 0), (first,)), (None, (last,)), (None, (first, first)),
            (None, (before,)), (None, (first, before)), (None, (((2,), (0, 1, 2)),)), (None, (first, ((1,), (0, 1, 2)))),
        ):
            self.gives(wanted, judge_turn, **question, paper=tuple((row, tables) for row in rows))
        told = {"net": bridge, "state": before, "feeds": (0, 1, 2)}
        self.gives((((2,), (0, 1, 2)), 1), judge_turn, **told, paper=((((2,), (0, 1, 2)), tables),) * 2)

    def test_made_otherwise(self):
        """A paper may begin higher and stay higher; it may not skip a step, nor end lower."""
        question = {"net": DOUBLE, "state": BEFORE, "feeds": (0, 1, 1)}
        paper = turn_paper(**question)
        (first, tables), (second, second_tables), (third, third_tables) = paper
        all_two = ((1, 2, 1, 2), (0, 1, 1, 2, 2))
        self.same(first, all_two)
        higher = ((1, 2, 1, 2), (0, 1, 1, 0, 2))
        for wanted, rows in (
            ((third, 2), paper), ((second, 1), paper[:2]), ((first, 0), paper[:1]), ((third, 3), paper + (paper[-1],)),
            (None, paper[1:]), (None, (paper[0], paper[2])), (None, (paper[0], paper[0])), (None, paper[::-1]), (None, paper[:2] + paper[:1]),
            ((((1, 1, 1, 2), (0, 1, 1, 2, 2)), 1), (paper[0], (((1, 1, 1, 2), (0, 1, 1, 2, 2)), second_tables))),
            (None, (paper[0], (higher, second_tables))), (None, (paper[0], (second, tables))),
            (None, ((first, second_tables),)), (None, ((third, table_paper(DOUBLE, *third)),)),
        ):
            self.same(slow_turn_judge(**question, paper=rows), wanted)
            self.gives(wanted, judge_turn, **question, paper=rows)
        # Above the state alone is not enough, nor above readings and responses alone.
        resting = turn_paper(TURNER, REST, (0, 1, 0))
        self.gives(None, judge_turn, net=TURNER, state=((1, 1), (0, 1, 1, 1)), feeds=(0, 1, 0), paper=resting)
        self.gives(None, judge_turn, net=TURNER, state=((1, 0), (0, 1, 1, 0)), feeds=(0, 1, 0), paper=resting)
        self.gives((REST, 0), judge_turn, net=TURNER, state=((1, 0), (0, 1, 1, 1)), feeds=(0, 1, 0), paper=resting)
        self.gives(None, judge_turn, net=TURNER, state=REST, feeds=(0, 1, 1), paper=resting)

    def test_against_the_sentences(self):
        source = random.Random(66)
        taken = refused = 0
        for _ in range(1500):
            question = some_question(source, 2, 3, 5)
            paper = changed_paper(source, question["net"], turn_paper(**question))
            wanted = slow_turn_judge(**question, paper=paper)
            self.same(judge_turn(**question, paper=paper), wanted)
            taken += wanted is not None
            refused += wanted is None
            if wanted is not None:
                self.check_shown(question, paper)
        self.assertGreater(min(taken, refused), 300)

    def check_shown(self, question, paper):
        """Point 69, G10: each state of a paper that is taken is above the one of the chain."""
        first, states = turn(**question)
        self.assertTrue(above(paper[0][0], first))
        for at, (state, _) in enumerate(paper):
            self.assertTrue(above(state, states[min(at, len(states) - 1)]))

    def test_one_thing_changed(self):
        for net, state, feeds in ((TURNER, REST, (0, 1, 1)), (STORE, ((1,), (0, 1, 0, 1, 0)), (0, 1, 1, 0)), (FIGHT, ((1, 1), (0, 1, 0)), (0, 1))):
            paper = turn_paper(net, state, feeds)
            taken = 0
            for other in changes(paper, ODD):
                wanted = slow_turn_judge(net, state, feeds, other)
                taken += wanted is not None
                self.same(judge_turn(net, state, feeds, other), wanted)
            self.assertLess(taken, 150)
            for other in list(as_lists(paper)) + list(one_as_true(paper)):
                self.same(judge_turn(net, state, feeds, other), None)

    def test_any_value(self):
        paper = turn_paper(TURNER, REST, (0, 1, 1))
        odd = (paper[0], paper[0][0], (paper,), list(paper), (paper[0][0],), (paper[0][1],), ((paper[0][0], None),), ((None, paper[0][1]),), ("ab",), (("a", "b"),))
        for thing in JUNK + odd + ((((), ()),), (((1, 2), (0, 1, 1, 2)),), ((((1, 2), (0, 1, 1, 2)),),), ((((1, 2), (0, 1, 1, 2)), ()),)):
            self.gives(None, judge_turn, net=TURNER, state=REST, feeds=(0, 1, 1), paper=thing)
            self.same(judge_turn(BARE, ((), (0, 1)), (0, 1), thing), None)

    def test_wrong_arguments(self):
        for net in (TURNER, CROSS, FIGHT):
            good = {"net": net, "state": unknown_start(net), "feeds": (0, 1) + (2,) * (len(net[0]) - 2)}
            self.refuses(turn_paper, good, bads(net), ("net",))
            self.refuses(judge_turn, dict(good, paper=None), bads(net), ("net", "paper"))
            self.refuses(judge_turn, dict(good, paper=turn_paper(**good)), bads(net), ("net", "paper"))
