"""Points 89, 90 and 91: rules that make nets shorter, all of them, and doing one."""

import itertools
import random

from everyohm.doing import rule_done
from everyohm.netkinds import is_net
from everyohm.rulekinds import is_rule
from everyohm.ruleslist import rules_of
from bads import bads
from helpers import BARE, CROSS, FIGHT, JUNK, LADDER, NETS, TURNER, Case
from nets import likely_net
from slowpapers import as_lists, one_as_true, replaced
from slowranks import tanks_of
from slowrules import slow_done, slow_is_rule, slow_rules

LONG = (("low", "high", "a"), (("q", 2), ("p", 1), ("s", 1)), (
    ("tie", 1, -1, 1, 3), ("one", 2, 2, 0, 4), ("one", 3, 2, 3, 4), ("zero", 1, 3, 0, 1), ("tie", 2, -1, 5, 3)))
FEEDS = ("low", "high", "a", "b")


def some_watched(source, net):
    """Return a lot of tanks of the net."""
    return tuple(sorted(source.sample(tanks_of(net), source.randint(0, min(2, len(net[1]))))))


def shorter_net(source):
    """Return a net in which rules often fit."""
    net = likely_net(source, 2, 4, 6)
    feeds, tanks, switches = net
    rows = list(switches)
    for _ in range(source.randint(0, 3)):
        if rows:
            kind, strength, gate, left, right = source.choice(rows)
            ends = source.choice(((left, right), (right, left)))
            rows.insert(source.randint(0, len(rows)), (kind, source.randint(1, 3), gate) + ends)
    if len(tanks) > 1 and source.random() < 0.5:
        # A small tank between two switches that move alike.
        tank = len(feeds) + source.randrange(len(tanks))
        rows = [row for row in rows if tank not in row[2:]]
        kind, gate = source.choice((("tie", -1), ("one", 2), ("zero", 0))) if len(feeds) > 2 else ("tie", -1)
        others = source.sample([node for node in range(len(feeds) + len(tanks)) if node != tank], 2)
        for other in others:
            rows.insert(source.randint(0, len(rows)), (kind, source.randint(1, 3), gate) + source.choice(((tank, other), (other, tank))))
        if source.random() < 0.8:
            tanks = replaced(tanks, tank - len(feeds), (tanks[tank - len(feeds)][0], 1))
    return feeds, tanks, tuple(rows)


class RulesTest(Case):
    def fit(self, wanted, net, watched, *things):
        for thing in things:
            with self.subTest(thing=thing):
                self.assertIs(slow_is_rule(net, watched, thing), wanted)
                self.gives(wanted, is_rule, net=net, watched=watched, thing=thing)

    def test_examples(self):
        self.gives((("bridge", 3), ("stub", 5), ("series", 4, 1, 2)), rules_of, net=LONG, watched=(3,))
        self.same(rule_done(LONG, (3,), ("series", 4, 1, 2))[1:], ((3, -1, 4), (0, 1, -1, 2, 3)))

    def test_bridges(self):
        net = (FEEDS, (("q", 1),), (("one", 1, 2, 0, 1), ("tie", 1, -1, 3, 2), ("zero", 6, 4, 2, 1), ("one", 1, 2, 3, 4), ("tie", 1, -1, 4, 0)))
        self.fit(True, net, (), ("bridge", 0), ("bridge", 1), ("bridge", 2))
        self.fit(False, net, (), ("bridge", 3), ("bridge", 4), ("bridge", 5), ("bridge", -1), ("bridge", True), ("bridge",), ("bridge", 0, 1), ("bridge", None), ("bridge", (0,)))

    def test_twins(self):
        net = (FEEDS, (("q", 1), ("r", 1)), (
            ("one", 3, 2, 4, 0), ("one", 3, 2, 0, 4), ("one", 2, 2, 4, 0), ("zero", 2, 2, 4, 0), ("one", 2, 3, 4, 0), ("one", 1, 2, 4, 1), ("one", 1, 2, 5, 0),
            ("tie", 2, -1, 4, 5), ("tie", 2, -1, 5, 4)))
        self.fit(True, net, (), ("twin", 0, 1), ("twin", 1, 0), ("twin", 0, 2), ("twin", 1, 2), ("twin", 7, 8), ("twin", 8, 7))
        # The weaker one goes; kind, gate and ends are the same; the two are different.
        self.fit(False, net, (), ("twin", 2, 0), ("twin", 0, 3), ("twin", 0, 4), ("twin", 0, 5), ("twin", 0, 6), ("twin", 0, 0), ("twin", 7, 7), ("twin", 0, 9), ("twin", -1, 0))
        self.fit(False, net, (), ("twin", 0), ("twin", 0, 1, 2), ("twin", False, True), ("twin", (0, 1)), ("twin", 0, None))

    def test_shadows(self):
        net = (FEEDS, (("q", 1), ("r", 1)), (("tie", 2, -1, 4, 5), ("one", 2, 4, 5, 4), ("zero", 1, 0, 4, 5), ("one", 3, 2, 4, 5), ("tie", 2, -1, 4, 5), ("one", 1, 2, 4, 0)))
        self.fit(True, net, (), ("shadow", 0, 1), ("shadow", 0, 2), ("shadow", 4, 1), ("shadow", 4, 2))
        self.fit(False, net, (), ("shadow", 0, 3), ("shadow", 0, 4), ("shadow", 1, 0), ("shadow", 1, 2), ("shadow", 0, 5), ("shadow", 0, 0), ("shadow", 0), ("shadow", 0, 6), ("shadow", False, True))

    def test_stubs(self):
        net = (FEEDS, (("q", 2), ("r", 1), ("s", 1), ("t", 2), ("u", 1), ("v", 1)), (
            ("one", 1, 2, 4, 5), ("tie", 1, -1, 5, 4), ("tie", 3, -1, 6, 0), ("zero", 1, 8, 6, 0), ("tie", 1, -1, 7, 4)))
        # r hangs on the greater q, s on low; t on q, which is not greater; u is a gate; v has no switch.
        self.fit(True, net, (), ("stub", 5), ("stub", 6), ("stub", 9))
        self.fit(False, net, (), ("stub", 4), ("stub", 7), ("stub", 8), ("stub", 3), ("stub", 0), ("stub", 10), ("stub", -1), ("stub",), ("stub", 5, 0), ("stub", "5"), ("stub", True))
        self.fit(False, net, (5, 6), ("stub", 5), ("stub", 6))
        self.fit(True, net, (5, 6), ("stub", 9))
        both = (FEEDS, (("q", 1),), (("tie", 1, -1, 4, 0), ("tie", 1, -1, 4, 1)))
        self.fit(False, both, (), ("stub", 4))

    def test_series(self):
        row = lambda kind, gate, other_kind, other_gate, size=1: (FEEDS, (("q", 2), ("r", size)), ((kind, 3, gate, 5, 4), (other_kind, 2, other_gate, 1, 5)))
        self.fit(True, row("one", 2, "one", 2), (), ("series", 5, 0, 1))
        self.fit(True, row("tie", -1, "tie", -1), (4,), ("series", 5, 0, 1))
        self.fit(True, row("zero", 4, "zero", 4), (), ("series", 5, 0, 1))
        for net in (row("one", 2, "one", 3), row("one", 2, "zero", 2), row("tie", -1, "one", 2), row("one", 2, "one", 2, 2), row("one", 2, "one", 2, 3), row("one", 5, "one", 5)):
            self.fit(False, net, (), ("series", 5, 0, 1))
        net = row("one", 2, "one", 2)
        self.fit(False, net, (5,), ("series", 5, 0, 1))
        self.fit(
            False, net, (), ("series", 5, 1, 0), ("series", 5, 0), ("series", 5, 0, 1, 1), ("series", 4, 0, 1), ("series", 5, 0, 0), ("series", 5, False, True), ("series", 5, 0, True), ("series", 5, False, 1), ("series", 5, -2, -1),
            ("series", 1, 0, 1), ("series", 6, 0, 1), ("series", 5, 0, 2), ("series", 5, (0, 1)), ("series",))
        third = (net[0], net[1], net[2] + (("one", 1, 2, 5, 4),))
        self.fit(False, third, (), ("series", 5, 0, 1), ("series", 5, 0, 2), ("series", 5, 1, 2))
        same = (FEEDS, (("q", 2), ("r", 1)), (("one", 3, 2, 5, 4), ("one", 2, 2, 4, 5)))
        self.fit(False, same, (), ("series", 5, 0, 1))

    def test_unseen(self):
        self.fit(True, LONG, (), ("unseen",))
        self.fit(False, LONG, (3,), ("unseen",))
        self.fit(False, LONG, (3,), ("unseen", 1), ("unseen", ()), ("Unseen",))
        self.fit(False, BARE, (), ("unseen",))
        apart = (FEEDS, (("q", 1), ("r", 1), ("s", 1)), (("one", 1, 5, 4, 0), ("one", 1, 6, 0, 1)))
        self.fit(True, apart, (4,), ("unseen",))
        self.fit(False, apart, (4, 6), ("unseen",))

    def test_any_value(self):
        for net, watched in ((LONG, (3,)), (CROSS, (4,)), (BARE, ())):
            for thing in JUNK + (("go",), ("", 1), (None, 1), (["bridge"], 3), (("bridge",), 3), ["bridge", 3], ["unseen"], "unseen", ("series", [4, 1, 2]), ("bridge", [3]), (0, 3), ((), ())):
                self.fit(False, net, watched, thing)
        for rule in rules_of(LONG, (3,)):
            for thing in list(as_lists(rule)) + list(one_as_true(rule)):
                self.fit(False, LONG, (3,), thing)

    def test_all_rules(self):
        source = random.Random(89)
        words = {}
        for net in NETS + tuple(shorter_net(source) for _ in range(300)):
            watched = some_watched(source, net)
            wanted = slow_rules(net, watched)
            self.gives(wanted, rules_of, net=net, watched=watched)
            for word in sorted({rule[0] for rule in wanted}):
                words[word] = words.get(word, 0) + 1
            for rule in wanted:
                self.same(is_rule(net, watched, rule), True)
            for rule in (("twin", source.randrange(8), source.randrange(8)), ("stub", source.randrange(9)), ("series", source.randrange(9), 0, 1), ("shadow", 0, 1)):
                self.same(is_rule(net, watched, rule), rule in wanted)
        self.assertTrue(len(words) == 6 and min(words.values()) > 20, words)

    def test_wrong_arguments(self):
        for net in (TURNER, CROSS, FIGHT, LONG):
            bad = dict(bads(net), rule=[None])
            self.refuses(is_rule, {"net": net, "watched": (), "thing": None}, bad, ("net", "thing"))
            self.refuses(rules_of, {"net": net, "watched": ()}, bad, ("net",))


class DoingTest(Case):
    def test_each_rule(self):
        for net, watched, rule, wanted in (
            (LONG, (3,), ("bridge", 3), ((LONG[0], LONG[1], LONG[2][:3] + LONG[2][4:]), (3, 4, 5), (0, 1, 2, -1, 3))),
            (LONG, (3,), ("stub", 5), ((LONG[0], LONG[1][:2], LONG[2][:4]), (3, 4, -1), (0, 1, 2, 3, -1))),
            (LONG, (3,), ("series", 4, 1, 2), (
                (LONG[0], (("q", 2), ("s", 1)), (("tie", 1, -1, 1, 3), ("one", 2, 2, 0, 3), ("zero", 1, 3, 0, 1), ("tie", 2, -1, 4, 3))), (3, -1, 4), (0, 1, -1, 2, 3))),
            (LONG, (), ("unseen",), ((LONG[0], (), ()), (-1, -1, -1), (-1,) * 5)),
            (FIGHT, (2,), ("unseen",), None), (LADDER, (2,), ("stub", 3), None), (LADDER, (3,), ("stub", 2), None),
            (BARE, (), ("unseen",), None),
        ):
            if wanted is None:
                self.fails("NotUsable", ("rule", -1), rule_done, net, watched, rule)
            else:
                self.gives(wanted, rule_done, net=net, watched=watched, rule=rule)

    def test_gates_are_renumbered(self):
        net = (FEEDS, (("p", 1), ("q", 1), ("r", 2)), (("tie", 1, -1, 4, 0), ("one", 2, 6, 5, 1), ("zero", 3, 5, 6, 1), ("one", 1, 6, 2, 3)))
        self.gives(
            ((FEEDS, (("q", 1), ("r", 2)), (("one", 2, 5, 4, 1), ("zero", 3, 4, 5, 1), ("one", 1, 5, 2, 3))), (-1, 4, 5), (-1, 0, 1, 2)),
            rule_done, net=net, watched=(), rule=("stub", 4))
        # A switch between feeds goes with its gate.
        lone = (FEEDS, (("p", 1), ("q", 1)), (("one", 1, 4, 0, 1), ("one", 1, 5, 0, 1), ("one", 1, 2, 5, 1)))
        self.gives(((FEEDS, (("q", 1),), (("one", 1, 4, 0, 1), ("one", 1, 2, 4, 1))), (-1, 4), (-1, 0, 1)), rule_done, net=lone, watched=(5,), rule=("unseen",))

    def test_series_takes_the_smaller_strength(self):
        for one, other in itertools.product((1, 3, 6), repeat=2):
            net = (FEEDS, (("r", 1), ("q", 2)), (("zero", one, 3, 5, 4), ("zero", other, 3, 4, 1)))
            self.gives(((FEEDS, (("q", 2),), (("zero", min(one, other), 3, 4, 1),)), (-1, 4), (0, -1)), rule_done, net=net, watched=(5,), rule=("series", 4, 0, 1))

    def test_all_rules(self):
        source = random.Random(91)
        done = 0
        for _ in range(250):
            net = shorter_net(source)
            watched = some_watched(source, net)
            for rule in rules_of(net, watched):
                done += 1
                wanted = slow_done(net, watched, rule)
                self.gives(wanted, rule_done, net=net, watched=watched, rule=rule)
                self.same(is_net(wanted[0]), True)
        self.assertGreater(done, 400)

    def test_wrong_arguments(self):
        for net in (TURNER, CROSS, LONG):
            rules = [thing for thing in JUNK] + [("bridge", 9), ("stub", 3), ("stub", 0), ["bridge", 3], ("series", 4, 2, 1), ("unseen", 0), ("twin", 0, 0), ("bridge", True)]
            rule = rules_of(net, ())[-1]
            self.refuses(rule_done, {"net": net, "watched": (), "rule": rule}, dict(bads(net), rule=rules), ("net",))
        self.fails("NotUsable", ("rule", -1), rule_done, LONG, (3,), ("unseen",))
        self.fails("NotUsable", ("rule", -1), rule_done, LONG, (4,), ("series", 4, 1, 2))
