"""Points 92 and 93: making nets shorter, and what shorter nets show."""

import random

from everyohm.doing import rule_done
from everyohm.responses import response
from everyohm.rulekinds import is_rule
from everyohm.ruleslist import rules_of
from everyohm.shortening import judge_short, seen_in, short_state, shorten
from everyohm.starts import is_even, unknown_start
from everyohm.turning import after, turn
from bads import bads
from helpers import BARE, CROSS, FIGHT, JUNK, NETS, TURNER, Case
from nets import some_feeds
from slowpapers import as_lists, changes, one_as_true
from slowrules import even_state, slow_done, slow_is_rule, slow_rules
from test_rules import LONG, shorter_net, some_watched

ALL = (("bridge", 3), ("stub", 5), ("series", 4, 1, 2))


def slow_work(net, watched, rules):
    """Do rules one by one; return the net, the new numbers of nodes and of switches, or None if one does not fit."""
    nodes = list(range(len(net[0]) + len(net[1])))
    switches = list(range(len(net[2])))
    if not isinstance(rules, tuple):
        return None
    for rule in rules:
        if not slow_is_rule(net, watched, rule):
            return None
        shorter, tanks, places = slow_done(net, watched, rule)
        numbers = list(range(len(net[0]))) + list(tanks)
        nodes = [-1 if node < 0 else numbers[node] for node in nodes]
        switches = [-1 if place < 0 else places[place] for place in switches]
        net, watched = shorter, tuple(numbers[tank] for tank in watched)
    return net, tuple(nodes), tuple(switches)


def slow_shorten(net, watched):
    rules = ()
    while True:
        left, nodes, _ = slow_work(net, watched, rules)
        found = slow_rules(left, tuple(nodes[tank] for tank in watched))
        if not found:
            return left, rules
        rules += found[:1]


def left_of(state, work):
    """Return what is left of a state, by the new numbers."""
    _, nodes, switches = work
    pick = lambda values, numbers: tuple(values[numbers.index(number)] for number in range(max(numbers, default=-1) + 1))
    return pick(state[0], switches), pick(state[1], nodes)


def some_rules(source, net, watched):
    """Return rules that fit one after the other, each any of those that fit then, and where they stop."""
    rules = ()
    for _ in range(source.randint(0, 6)):
        left, nodes, _ = slow_work(net, watched, rules)
        found = rules_of(left, tuple(nodes[tank] for tank in watched))
        if not found:
            break
        rules += (source.choice(found),)
    return rules


class ShorteningTest(Case):
    def test_examples(self):
        self.same(shorten(LONG, (3,))[0], (("low", "high", "a"), (("q", 2),), (("tie", 1, -1, 1, 3), ("one", 2, 2, 0, 3))))
        self.same(
            short_state(LONG, (3,), (("series", 4, 1, 2),), ((1, 0, 0, 2, 1), (0, 1, 0, 2, 1, 0))), ((1, 0, 2, 1), (0, 1, 0, 2, 0)))

    def test_by_hand(self):
        self.gives((slow_work(LONG, (3,), ALL)[0], ALL), shorten, net=LONG, watched=(3,))
        self.gives(((LONG[0], (), ()), ALL + (("unseen",),)), shorten, net=LONG, watched=())
        self.gives((BARE, ()), shorten, net=BARE, watched=())
        self.gives((TURNER, ()), shorten, net=TURNER, watched=(3,))
        self.gives((0, 1, 2, 3, -1, -1), seen_in, net=LONG, watched=(3,), rules=ALL)
        self.gives((0, 1, 2, 3, 4, 5), seen_in, net=LONG, watched=(3,), rules=())
        self.gives(LONG, judge_short, net=LONG, watched=(3,), paper=())
        self.gives(None, judge_short, net=LONG, watched=(3,), paper=ALL[1:] + ALL[:1])
        # The numbers of tanks and switches in a rule are those that the rules before it leave.
        other = (("stub", 5), ("series", 4, 1, 2), ("bridge", 2))
        self.gives(shorten(LONG, (3,))[0], judge_short, net=LONG, watched=(3,), paper=other)
        self.gives(None, judge_short, net=LONG, watched=(3,), paper=ALL + ALL[:1])
        self.gives(None, judge_short, net=LONG, watched=(4,), paper=ALL)

    def test_watched_tanks_get_new_numbers(self):
        net = (("low", "high"), (("p", 1), ("q", 1), ("r", 1)), (("tie", 1, -1, 2, 0), ("tie", 1, -1, 3, 0), ("tie", 1, -1, 4, 1)))
        self.gives(((("low", "high"), (("r", 1),), (("tie", 1, -1, 2, 1),)), (("stub", 2), ("stub", 2))), shorten, net=net, watched=(4,))
        self.gives((0, 1, -1, -1, 2), seen_in, net=net, watched=(4,), rules=(("stub", 2), ("stub", 2)))
        self.gives(None, judge_short, net=net, watched=(3,), paper=(("stub", 2), ("stub", 2)))

    def test_against_one_by_one(self):
        source = random.Random(92)
        done = 0
        for net in NETS + tuple(shorter_net(source) for _ in range(150)):
            watched = some_watched(source, net)
            wanted = slow_shorten(net, watched)
            done += len(wanted[1])
            self.gives(wanted, shorten, net=net, watched=watched)
            self.gives(wanted[0], judge_short, net=net, watched=watched, paper=wanted[1])
            for rules in (wanted[1], some_rules(source, net, watched)):
                work = slow_work(net, watched, rules)
                state = even_state(source, net)
                self.gives(work[0], judge_short, net=net, watched=watched, paper=rules)
                self.gives(work[1], seen_in, net=net, watched=watched, rules=rules)
                self.gives(left_of(state, work), short_state, net=net, watched=watched, rules=rules, state=state)
                self.same(short_state(net, watched, rules, unknown_start(net)), unknown_start(work[0]))
                # Each rule keeps all feeds and watched tanks.
                self.same(work[1][:len(net[0])], tuple(range(len(net[0]))))
                self.assertTrue(all(work[1][tank] >= 0 for tank in watched))
                self.assertEqual([work[0][1][work[1][tank] - len(net[0])] for tank in watched], [net[1][tank - len(net[0])] for tank in watched])
        self.assertGreater(done, 400)

    def test_nothing_watched_leaves_the_feeds(self):
        source = random.Random(921)
        for net in NETS + tuple(shorter_net(source) for _ in range(100)):
            self.same(shorten(net, ())[0], (net[0], (), ()))

    def test_what_shorter_nets_show(self):
        """Point 93: responses, spread and chain are what is left of those of the net."""
        source = random.Random(93)
        shorter = changed = 0
        for _ in range(300):
            net = shorter_net(source)
            watched = some_watched(source, net)
            rules = shorten(net, watched)[1] if source.random() < 0.5 else some_rules(source, net, watched)
            work = slow_work(net, watched, rules)
            state = even_state(source, net)
            if source.random() < 0.4:
                state = after(net, state, some_feeds(source, net))
            small = short_state(net, watched, rules, state)
            self.same(left_of((state[0], response(net, *state)), work), (small[0], response(work[0], *small)))
            feeds = some_feeds(source, net)
            first, states = turn(net, state, feeds)
            small_first, small_states = turn(work[0], small, feeds)
            self.same(left_of(first, work), small_first)
            self.assertLessEqual(len(small_states), len(states))
            shorter += len(small_states) < len(states)
            changed += rules != ()
            for at, one in enumerate(states):
                self.same(left_of(one, work), small_states[min(at, len(small_states) - 1)])
        self.assertGreater(shorter, 5)
        self.assertGreater(changed, 150)

    def test_one_thing_changed(self):
        source = random.Random(922)
        cases = [(LONG, (3,), ALL)]
        while len(cases) < 12:
            net = shorter_net(source)
            watched = some_watched(source, net)
            cases.append((net, watched, some_rules(source, net, watched)))
        for net, watched, rules in cases:
            for other in changes(rules, (None, True, -1, 0, 1, 2, 5, "stub", "twin", "unseen", (), [], ("unseen",))):
                work = slow_work(net, watched, other)
                self.same(judge_short(net, watched, other), work and work[0])
                if work is None:
                    self.fails("NotUsable", ("rules", -1), seen_in, net, watched, other)
            for other in list(as_lists(rules)) + list(one_as_true(rules)):
                self.same(judge_short(net, watched, other), None)

    def test_any_value(self):
        for thing in JUNK + (ALL[0], (ALL,), list(ALL), ((),), (None,), "unseen", ("unseen",), (("unseen",), None), (("unseen",), ("unseen",)), ({},), (["bridge", 3],)):
            wanted = slow_work(LONG, (3,), thing)
            self.gives(wanted and wanted[0], judge_short, net=LONG, watched=(3,), paper=thing)

    def test_wrong_arguments(self):
        for net in (TURNER, CROSS, LONG, FIGHT):
            rules = [thing for thing in JUNK if thing != ()] + [(("bridge", 9),), (("stub", 0),), [("unseen",)], (("unseen",), ("unseen",)), (["unseen"],), (None,)]
            bad = dict(bads(net), rules=rules, paper=[None])
            self.refuses(shorten, {"net": net, "watched": ()}, bad, ("net",))
            self.refuses(judge_short, {"net": net, "watched": (), "paper": None}, bad, ("net", "paper"))
            self.refuses(seen_in, {"net": net, "watched": (), "rules": ()}, bad, ("net",))
            self.refuses(short_state, {"net": net, "watched": (), "rules": (), "state": unknown_start(net)}, bad, ("net",))
        # A state must be even, whatever the rules leave.
        uneven = ((1, 0, 1, 2, 1), (0, 1, 0, 2, 1, 0))
        self.assertFalse(is_even(LONG, uneven))
        self.fails("NotUsable", ("state", -1), short_state, LONG, (3,), (), uneven)
        self.fails("NotUsable", ("state", -1), short_state, LONG, (3,), ALL, uneven)
        self.fails("NotUsable", ("rules", -1), short_state, LONG, (3,), (("unseen",),), uneven)

    def test_rules_that_fit_stay_usable(self):
        source = random.Random(923)
        for _ in range(40):
            net = shorter_net(source)
            for rule in rules_of(net, ()):
                self.same(is_rule(net, (), rule), True)
                self.same(judge_short(net, (), (rule,)), rule_done(net, (), rule)[0])
