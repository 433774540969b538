"""Points 86, 87 and 88: whether nets are alike."""

import itertools
import random

from everyohm.alikejudge import judge_alike
from everyohm.alikes import alike
from everyohm.shortening import shorten
from everyohm.turning import after_all
from bads import bad_numbers
from helpers import BARE, DOUBLE, FIGHT, JUNK, LADDER, TURNER, Case
from nets import likely_net, some_feeds, some_state
from slowpapers import as_lists, changes, one_as_true, replaced
from slowranks import tanks_of
from slowturns import is_slow_state, slow_readings, slow_turn

# Other ways to turn q by the feed a than that of TURNER.
GATES = (("low", "high", "a"), (("r", 1), ("q", 2)), (("one", 2, 2, 0, 4), ("zero", 2, 2, 1, 4)))
STRONG = (("low", "high", "a"), (("q", 1),), (("tie", 1, -1, 1, 3), ("one", 3, 2, 0, 3)))
# q takes d while g is 1 and keeps it while g is 0; in LOOSE d also closes a weak switch from high.
KEEP = (("low", "high", "d", "g"), (("q", 1),), (("one", 2, 3, 2, 4),))
LOOSE = (("low", "high", "d", "g"), (("q", 1),), (("one", 2, 3, 2, 4), ("one", 1, 2, 1, 4)))


def slow_start(net):
    held = (0, 1) + (2,) * (len(net[0]) + len(net[1]) - 2)
    return slow_readings(net, held), held


def slow_alike(net, other, names, wide, limit):
    """Return what alike is to return, or ("TooMany", limit), by whole sequences from the unknown starts."""
    values = (0, 1, 2) if wide else (0, 1)
    rows = [(0, 1) + rest for rest in itertools.product(values, repeat=len(net[0]) - 2)]
    places = [[[*one[0], *[tank for tank, _ in one[1]]].index(name) for one in (net, other)] for name in names]
    pairs, ways, made = [(slow_start(net), slow_start(other))], [()], 0
    for pair, way in zip(pairs, ways):
        for feeds in rows:
            made += 1
            if made > limit:
                return ("TooMany", limit)
            new = tuple(slow_turn(one, state, feeds)[1][-1] for one, state in zip((net, other), pair))
            for name, (at, place) in zip(names, places):
                if new[0][1][at] != new[1][1][place]:
                    return ("apart", way + (feeds,), name, new[0][1][at], new[1][1][place])
            if new not in pairs:
                pairs.append(new)
                ways.append(way + (feeds,))
    return ("alike", tuple(pairs))


def slow_judge_alike(net, other, names, wide, paper):
    if not isinstance(paper, tuple):
        return False
    for pair in paper:
        if not isinstance(pair, tuple) or len(pair) != 2:
            return False
        for one, state in zip((net, other), pair):
            if not isinstance(state, tuple) or len(state) != 2 or not isinstance(state[1], tuple) or state[1][:2] != (0, 1):
                return False
            if not is_slow_state(one, state, state[1][:len(one[0])]):
                return False
        if any(pair[0][1][number(net, name)] != pair[1][1][number(other, name)] for name in names):
            return False
        for rest in itertools.product((0, 1, 2) if wide else (0, 1), repeat=len(net[0]) - 2):
            new = tuple(slow_turn(one, state, (0, 1) + rest)[1][-1] for one, state in zip((net, other), pair))
            if new not in paper:
                return False
    return (slow_start(net), slow_start(other)) in paper


def number(net, name):
    return (net[0] + tuple(tank for tank, _ in net[1])).index(name)


def varied(source, net):
    """Return a net that differs a little from another one."""
    feeds, tanks, switches = net
    kind = source.randrange(6)
    if kind == 0 or not switches:
        return feeds, tuple((name, source.randint(1, 4)) for name, _ in tanks), switches
    at = source.randrange(len(switches))
    word, strength, gate, left, right = switches[at]
    if kind == 1:
        return feeds, tanks, replaced(switches, at, (word, source.randint(1, 6), gate, left, right))
    if kind == 5 and word != "tie":
        return feeds, tanks, replaced(switches, at, ({"one": "zero", "zero": "one"}[word], strength, gate, left, right))
    if kind == 2:
        return feeds, tanks, replaced(switches, at, (word, strength, gate, right, left))
    if kind == 3:
        return feeds, tanks, switches + (switches[at],)
    return feeds, tanks, switches[:at] + switches[at + 1:]


class AlikesTest(Case):
    def test_told_apart(self):
        # With a feed that is told 2 the strong switch may be open or closed; both nets tell 2 then.
        self.gives(("apart", ((0, 1, 0),), "q", 1, 2), alike, net=TURNER, other=(TURNER[0], TURNER[1], (("tie", 2, -1, 1, 3), ("tie", 2, -1, 0, 3))), names=("q",), wide=False, limit=99)
        self.same(alike(TURNER, STRONG, ("q",), True, 99)[0], "alike")
        self.same(alike(TURNER, GATES, ("q",), False, 99)[0], "alike")
        self.same(alike(TURNER, GATES, ("q",), True, 99)[0], "alike")
        # The first shortest sequence: no shorter one tells them apart.
        told = alike(KEEP, LOOSE, ("q",), False, 999)
        self.same(told, slow_alike(KEEP, LOOSE, ("q",), False, 999))
        self.same(told[0], "apart")
        for many in range(len(told[1])):
            for sequence in itertools.product([(0, 1) + rest for rest in itertools.product((0, 1), repeat=2)], repeat=many):
                ends = [after_all(net, slow_start(net), sequence)[1][-1] for net in (KEEP, LOOSE)]
                self.assertEqual(ends[0], ends[1])

    def test_wide(self):
        # Ties of one strength, where a is told 0 and 1 alike; told 2, a switch to low counts.
        one = (("low", "high", "a"), (("q", 1),), (("tie", 2, -1, 1, 3), ("one", 1, 2, 0, 3)))
        other = (("low", "high", "a"), (("q", 1),), (("zero", 2, 2, 1, 3), ("one", 2, 2, 1, 3)))
        start = (slow_start(one), slow_start(other))
        self.same(alike(one, other, ("q",), False, 99)[0], "alike")
        self.gives(("apart", ((0, 1, 2),), "q", 1, 2), alike, net=one, other=other, names=("q",), wide=True, limit=99)
        self.same(alike(one, other, ("q",), False, 99)[1][0], start)
        self.same(alike(one, other, (), True, 99)[0], "alike")

    def test_edges(self):
        rest = ((), (0, 1))
        self.gives(("alike", ((rest, rest),)), alike, net=BARE, other=BARE, names=(), wide=False, limit=1)
        self.gives(("alike", ((rest, slow_start(FIGHT)),)), alike, net=BARE, other=FIGHT, names=(), wide=True, limit=1)
        self.fails("NotFlat", ("feeds", ""), alike, BARE, TURNER, (), False, 1)
        self.fails("NotFlat", ("feeds", ""), alike, TURNER, (("low", "high", "b"),) + TURNER[1:], ("q",), False, 9)
        self.fails("NotFlat", ("feeds", ""), judge_alike, BARE, TURNER, (), False, None)
        swapped = (("low", "high", "g", "d"),) + KEEP[1:]
        self.fails("NotFlat", ("feeds", ""), alike, KEEP, swapped, ("q",), False, 9)

    def test_limits(self):
        for net, other, wide in ((TURNER, STRONG, False), (TURNER, GATES, True), (KEEP, KEEP, False), (KEEP, LOOSE, False), (TURNER, TURNER, True)):
            names = ("q",)
            wanted = slow_alike(net, other, names, wide, 10 ** 6)
            least = next(limit for limit in itertools.count(1) if slow_alike(net, other, names, wide, limit)[0] != "TooMany")
            for limit in (least, least + 1, 10 ** 6):
                self.gives(wanted, alike, net=net, other=other, names=names, wide=wide, limit=limit)
            for limit in range(1, least):
                self.fails("TooMany", (limit,), alike, net, other, names, wide, limit)

    def test_random_nets(self):
        source = random.Random(86)
        seen = {}
        for _ in range(150):
            net = likely_net(source, 2, 3, 5)
            other = net
            for _ in range(source.choice((1, 3, 5))):
                other = varied(source, other)
            names = tuple(source.sample([name for name, _ in net[1]], source.randint(1, len(net[1]))))
            wide = source.random() < 0.4
            wanted = slow_alike(net, other, names, wide, 60)
            seen[wanted[0]] = seen.get(wanted[0], 0) + 1
            if wanted[0] == "TooMany":
                self.fails("TooMany", (60,), alike, net, other, names, wide, 60)
                continue
            self.gives(wanted, alike, net=net, other=other, names=names, wide=wide, limit=60)
            if wanted[0] == "alike":
                self.gives(True, judge_alike, net=net, other=other, names=names, wide=wide, paper=wanted[1])
                self.check_shown(source, net, other, names)
        self.assertTrue(min(seen["alike"], seen["apart"]) > 25, seen)

    def check_shown(self, source, net, other, names):
        """Point 88: behind each sequence of known feed values both nets hold the same at the names."""
        for _ in range(3):
            sequence = tuple(tuple(value % 2 for value in some_feeds(source, net)) for _ in range(5))
            sequence = tuple((0, 1) + feeds[2:] for feeds in sequence)
            ends = [after_all(one, slow_start(one), sequence)[1] for one in (net, other)]
            for name in names:
                self.assertEqual(ends[0][number(net, name)], ends[1][number(other, name)])

    def test_shorter_nets_are_alike(self):
        """Point 93: alike never tells a net from the one that shorten gives, at watched tanks."""
        source = random.Random(861)
        for _ in range(60):
            net = likely_net(source, 1, 4, 7)
            watched = tuple(sorted(source.sample(tanks_of(net), source.randint(1, len(net[1])))))
            shorter, _ = shorten(net, watched)
            names = tuple(net[1][tank - len(net[0])][0] for tank in watched)
            self.same(alike(net, shorter, names, source.random() < 0.5, 5000)[0], "alike")

    def test_wrong_arguments(self):
        good = {"net": TURNER, "other": STRONG, "names": ("q",), "wide": True, "limit": 9}
        bad = {
            "other": [thing for thing in JUNK if thing != BARE] + [list(TURNER), TURNER[:2]],
            "names": [thing for thing in JUNK if thing != ()] + [["q"], ("q", "q"), ("a",), ("low",), ("zz",), ("q", "zz"), ("q", None), "q", (("q",),), ("x",)],
            "wide": [thing for thing in JUNK if thing is not True and thing is not False] + ["yes", 1, 0],
            "limit": bad_numbers(1), "paper": [None],
        }
        self.refuses(alike, good, bad, ("net",))
        del good["limit"]
        self.refuses(judge_alike, dict(good, paper=None), bad, ("net", "paper"))
        # A name must be that of a tank of both nets; different feeds come behind all parameters.
        self.fails("NotUsable", ("names", -1), alike, GATES, TURNER, ("r",), True, 9)
        self.fails("NotUsable", ("names", -1), alike, TURNER, GATES, ("r",), True, 9)
        self.fails("NotUsable", ("names", -1), alike, TURNER, BARE, ("q",), True, 9)
        self.fails("NotUsable", ("limit", -1), alike, TURNER, BARE, (), True, 0)
        self.fails("NotUsable", ("wide", -1), judge_alike, TURNER, BARE, (), 1, ())


class JudgeAlikeTest(Case):
    QUESTION = {"net": TURNER, "other": STRONG, "names": ("q",), "wide": False}

    def judge(self, wanted, paper, **more):
        question = dict(self.QUESTION, **more)
        self.assertIs(slow_judge_alike(**question, paper=paper), wanted)
        self.gives(wanted, judge_alike, **question, paper=paper)

    def test_papers(self):
        pairs = alike(*self.QUESTION.values(), 99)[1]
        self.assertEqual(len(pairs), 3)
        self.judge(True, pairs)
        self.judge(True, pairs[::-1])
        self.judge(True, pairs + pairs)
        for at, pair in enumerate(pairs):
            self.judge(False, pairs[:at] + pairs[at + 1:])
            self.judge(False, replaced(pairs, at, pair[::-1]) if pair[0] != pair[1] else pairs[:at])
            self.judge(False, replaced(pairs, at, list(pair)))
            self.judge(False, replaced(pairs, at, pair + pair[:1]))
        # More pairs must agree, too, and be followed.
        unknown = ((1, 2), (0, 1, 2, 2))
        self.judge(True, pairs + ((((1, 0), (0, 1, 1, 0)), ((1, 2), (0, 1, 0, 0))),))
        self.judge(False, pairs + ((((1, 0), (0, 1, 1, 0)), ((1, 2), (0, 1, 0, 1))),))
        self.judge(True, pairs + ((((1, 0), (0, 1, 1, 0)), ((1, 2), (0, 1, 0, 1))),), names=())
        self.judge(True, pairs + ((unknown, ((1, 0), (0, 1, 1, 2))),))
        self.judge(False, ())
        self.judge(False, list(pairs))

    def test_two_that_differ(self):
        other = (TURNER[0], TURNER[1], (("tie", 2, -1, 1, 3), ("tie", 2, -1, 0, 3)))
        pairs = alike(TURNER, other, (), False, 99)[1]
        self.judge(True, pairs, other=other, names=())
        self.judge(False, pairs, other=other)

    def test_storing(self):
        pairs = alike(KEEP, KEEP, ("q",), False, 99)[1]
        question = {"net": KEEP, "other": KEEP, "names": ("q",)}
        self.judge(True, pairs, **question)
        self.judge(False, pairs, **question, wide=True)
        self.judge(True, alike(KEEP, KEEP, ("q",), True, 999)[1], **question, wide=True)
        for at in range(len(pairs)):
            self.judge(False, pairs[:at] + pairs[at + 1:], **question)

    def test_one_thing_changed(self):
        pairs = alike(*self.QUESTION.values(), 99)[1]
        for other in changes(pairs, (None, True, 0, 2, 3, (), [], "a")):
            self.same(judge_alike(**self.QUESTION, paper=other), slow_judge_alike(**self.QUESTION, paper=other))
        for other in list(as_lists(pairs)) + list(one_as_true(pairs)):
            self.same(judge_alike(**self.QUESTION, paper=other), False)

    def test_any_value(self):
        pairs = alike(*self.QUESTION.values(), 99)[1]
        for thing in JUNK + (pairs[0], (pairs,), ((None, None),), (((), ()),), ("ab",), (("a", "b"),), ((pairs[0][0], None),), ((((), ()), ((), ())),)):
            self.gives(False, judge_alike, **self.QUESTION, paper=thing)

    def test_random_papers(self):
        source = random.Random(87)
        seen = {True: 0, False: 0}
        while min(seen.values()) < 60:
            net = likely_net(source, 1, 2, 4)
            other = varied(source, net)
            names = tuple(name for name, _ in net[1])
            told = slow_alike(net, other, names if source.random() < 0.7 else (), False, 40)
            if told[0] != "alike":
                continue
            paper = list(told[1])
            if source.random() < 0.4:
                del paper[source.randrange(len(paper))]
            if source.random() < 0.5:
                paper.append((some_state(source, net), some_state(source, other)))
            wanted = slow_judge_alike(net, other, names, False, tuple(paper))
            seen[wanted] += 1
            self.gives(wanted, judge_alike, net=net, other=other, names=names, wide=False, paper=tuple(paper))
