"""Points 95 to 98: desks, what they answer, and their texts."""

import random

from everyohm.benchreading import read_bench
from everyohm.benchtexts import bench_text
from everyohm.bookreading import read_book
from everyohm.carrying import carried
from everyohm.desklines import order_line
from everyohm.desks import Desk
from everyohm.desktexts import restored, saved
from everyohm.edits import with_feed, with_size, with_strength, with_switch, with_tank, without_switch, without_tank
from everyohm.errors import OhmError
from everyohm.flattening import flat
from everyohm.flickers import flickers
from everyohm.netnodes import node_of
from everyohm.nettexts import net_text, state_text
from everyohm.searching import run_bench
from everyohm.shortening import short_state, shorten
from everyohm.starts import is_even, readings, unknown_start
from everyohm.tables import firm, may
from everyohm.turning import spread, turn
from everyohm.valuetexts import values_text
from helpers import BARE, JUNK, Case, shape
from slowbenches import names_of, some_bench

TWO = "module two|in a|for k 0 to 1|tank 1 r|one 2 a low r[k]|tie 1 high r[k]|end|end"
EDITS = {
    "feed": with_feed, "tank": with_tank, "drop": without_tank, "cut": without_switch, "size": with_size, "strength": with_strength,
    "one": lambda net, *parts: with_switch(net, "one", *parts), "zero": lambda net, *parts: with_switch(net, "zero", *parts),
    "tie": lambda net, strength, left, right: with_switch(net, "tie", strength, None, left, right),
}


def slow_say(net, state, order):
    """Return the net, the state and the answer that an order is to give, and whether it belongs to the log."""
    word, parts = order[0], order[1:]
    if word in EDITS:
        other, places = EDITS[word](net, *parts)
        return other, carried(net, state, other, places), "ok", True
    if word == "make":
        net = flat(read_book(parts[1]), parts[0])
        return net, unknown_start(net), "ok", True
    if word == "short":
        watched = []
        for name in parts[0]:
            watched.append(node_of(net, name))
        watched = tuple(sorted(set(watched)))
        other, rules = shorten(net, watched)
        return other, short_state(net, watched, rules, state), "ok", True
    if word == "go":
        chain = turn(net, state, parts[0])[1]
        return net, chain[-1], "depth " + str(len(chain) - 1), True
    answers = {
        "spread": lambda: values_text(spread(net, state, parts[0])[1]),
        "flicker": lambda: " ".join(names_of(net)[tank] for tank in flickers(net, state, parts[0])) or "-",
        "tell": lambda: values_text(state[1]), "net": lambda: net_text(net), "state": lambda: state_text(net, state),
        "why": lambda: " ".join(
            str(row[node_of(net, parts[0])]) for row in (firm(net, state[0]), may(net, *state, 0), may(net, *state, 1))),
        "bench": lambda: " ".join(str(part) for part in run_bench(net, read_bench(parts[0]), 2000)[:2] if isinstance(part, (str, int))),
    }
    return net, state, answers[word](), False


def some_order(source, net):
    """Return an order that often can be done with the net."""
    names = names_of(net) + ("zz",)
    switch = source.randint(0, max(0, len(net[2])))
    some = lambda: source.choice(names)
    new = source.choice(("a", "b", "q", "r", "s", "t.u", "v[0]"))
    values = (0, 1) + tuple(source.randrange(3) for _ in net[0][2:])
    kind = source.randrange(22)
    if kind < 9:
        return (
            ("feed", new), ("tank", new, source.randint(1, 4)), ("one", source.randint(1, 3), some(), some(), some()), ("zero", source.randint(1, 3), some(), some(), some()),
            ("tie", source.randint(1, 3), some(), some()), ("drop", some()), ("cut", switch), ("size", some(), source.randint(1, 4)), ("strength", switch, source.randint(1, 6)))[kind]
    if kind == 9 and source.random() < 0.3:
        return ("make", source.choice(("two", "one", "x1")), TWO.replace("|", "\n"))
    if kind == 10:
        return ("short", tuple(some() for _ in range(source.randint(1, 3))))
    if kind == 11:
        text = bench_text(some_bench(source, net, notes=("mm", "nn"), most=3))
        # In a line | stands for a newline, so no formula with this sign can be told to a desk.
        return ("bench", text.replace("|", "^"))
    if kind < 15:
        return (source.choice(("spread", "flicker")), values if source.random() < 0.8 else values[:-1])
    if kind < 18:
        return source.choice((("tell",), ("net",), ("state",), ("why", some())))
    return ("go", values if source.random() < 0.9 else values + (1,))


class DesksTest(Case):
    def kept(self, desk):
        return shape((desk.net(), desk.state(), desk.log()))

    def talk(self, desk, *pairs):
        """Check the answers to lines, one after the other."""
        for line, answer in pairs:
            with self.subTest(line=line):
                self.same(desk.say(line), answer)

    def test_examples(self):
        desk = Desk()
        self.same(
            (desk.say("tank q 1"), desk.say("tie 1 high q"), desk.say("go 01"), desk.say("why q"), desk.say("drop q")), ("ok", "ok", "depth 1", "5 0 5", "no: StillUsed"))

    def test_a_new_desk(self):
        desk = Desk()
        self.same((desk.net(), desk.state(), desk.log()), (BARE, ((), (0, 1)), ()))
        self.talk(desk, ("tell", "01"), ("net", "net low high"), ("state", "state 01 - -"), ("go 01", "depth 0"), ("spread 01", "01"), ("flicker 01", "-"), ("why low", "11 11 0"), ("why high", "11 0 11"))
        self.same(desk.say(text="short"), "ok")
        self.same(desk.log(), ("go 01", "short"))

    def test_edits(self):
        desk = Desk()
        self.talk(
            desk, ("feed a", "ok"), ("tank q 1", "ok"), ("tie 1 high q", "ok"), ("one 2 a low q", "ok"), ("state", "state 01x x 1x"), ("go 011", "depth 1"), ("tell", "0110"), ("state", "state 011 0 11"),
            ("spread 010", "010x"), ("go 010", "depth 1"), ("why q", "5 0 5"), ("feed b", "ok"), ("tell", "010x1"), ("zero 3 b low q", "ok"), ("state", "state 010x 1 10x"), ("go 0101", "depth 1"),
            ("strength 1 6", "ok"), ("size q 4", "ok"), ("cut 2", "ok"), ("net", "net low high a b\ntank q 4\ntie 1 high q\none 6 a low q"), ("tank r.s[0] 2", "ok"), ("drop r.s[0]", "ok"),
            ("drop q", "no: StillUsed"), ("tell", "01011"))
        self.same(desk.net(), (("low", "high", "a", "b"), (("q", 4),), (("tie", 1, -1, 1, 4), ("one", 6, 2, 0, 4))))
        self.same(desk.log()[-1], "drop r.s[0]")

    def test_flickers(self):
        desk = Desk()
        self.talk(
            desk, ("feed a", "ok"), ("tank q 1", "ok"), ("tank r 1", "ok"), ("tie 1 low q", "ok"), ("one 2 a high q", "ok"), ("zero 2 a high q", "ok"), ("tie 1 low r", "ok"), ("one 2 a high r", "ok"),
            ("zero 2 a high r", "ok"), ("go 010", "depth 1"), ("tell", "01011"), ("flicker 011", "q r"), ("flicker 010", "-"), ("spread 011", "011xx"), ("flicker 01x", "-"), ("tell", "01011"))

    def test_make_and_short(self):
        desk = Desk()
        self.talk(
            desk, ("feed old", "ok"), ("make two " + TWO, "ok"), ("net", "net low high a\ntank r[0] 1\ntank r[1] 1\none 2 a low r[0]\ntie 1 high r[0]\none 2 a low r[1]\ntie 1 high r[1]"),
            ("tell", "01xxx"), ("go 011", "depth 1"), ("tell", "01100"), ("short r[1] r[1]", "ok"), ("net", "net low high a\ntank r[1] 1\none 2 a low r[1]\ntie 1 high r[1]"), ("state", "state 011 0 11"),
            ("short a", "no: NotUsable"), ("short r[0]", "no: NoSuchName"), ("short r[1] zz a", "no: NoSuchName"), ("short", "ok"), ("net", "net low high a"), ("tell", "011"))
        self.same(desk.log(), ("feed old", "make two " + TWO, "go 011", "short r[1] r[1]", "short"))

    def test_benches(self):
        desk = Desk()
        self.talk(
            desk, ("make two " + TWO, "ok"), ("bench bench b|end", "kept"), ("bench bench b| want r[0] = 1|end", "unsure 0"), ("bench bench b|set a = 0|go|want r[1] = 0|end", "broken 2"),
            ("bench bench b|loop|any n|set a = n|go|want r[0] = !n|end|end", "kept"), ("bench bench b|times 64|go|end|times 64|go|end|loop|go|end|end", "kept"),
            ("bench bench b|times 64|times 7|go|end|end|end", "no: TooMany"), ("bench bench b|any a|end", "no: NameTwice"), ("bench bench b|set zz = 0|end", "no: NotFlat"),
            ("bench bench b|want zz = 0|end", "no: NoSuchName"), ("bench bench b", "no: Unended"), ("bench ", "no: InvalidText"), ("bench go", "no: InvalidText"),
            ("bench bench b|any a1 b1 c1 d1 e1 f1|any a2 b2 c2 d2 e2|end", "no: TooMany"), ("bench bench b|any a1 b1 c1 d1 e1 f1|any a2 b2 c2 d2|end", "kept"), ("tell", "01xxx"),
            # Just two thousand followers, and one more.
            ("bench bench b|times 16|go|end|any a1 b1 c1 d1 e1 f1|times 30|go|end|end", "kept"), ("bench bench b|times 17|go|end|any a1 b1 c1 d1 e1 f1|times 30|go|end|end", "no: TooMany"))
        self.same(desk.log(), ("make two " + TWO,))

    def test_refused_lines_change_nothing(self):
        desk = Desk()
        self.talk(desk, ("make two " + TWO, "ok"), ("go 010", "depth 1"), ("feed b", "ok"))
        before = self.kept(desk)
        for line, name in (
            ("", "InvalidLine"), ("go", "InvalidLine"), ("go 01", "NotUsable"), ("go 10x0", "NotUsable"), ("go -", "NotUsable"), ("go 0100 ", "InvalidLine"), ("spread 011", "NotUsable"), ("flicker 01", "NotUsable"),
            ("feed a", "NameTwice"), ("feed low", "NameTwice"), ("tank r[0] 1", "NameTwice"), ("one 1 a low low", "NotUsable"), ("one 1 zz low r[0]", "NoSuchName"), ("tie 1 low zz", "NoSuchName"),
            ("drop r[0]", "StillUsed"), ("drop a", "NoSuchName"), ("drop zz", "NoSuchName"), ("cut 4", "NotUsable"), ("strength 4 1", "NotUsable"), ("size a 1", "NoSuchName"), ("size r[0] 5", "InvalidLine"),
            ("why zz", "NoSuchName"), ("short zz", "NoSuchName"), ("short low", "NotUsable"), ("make two ", "NotFlat"), ("make one " + TWO, "NotFlat"), ("make two module two", "Unended"), ("make two bad", "InvalidText"),
            ("make two " + TWO.replace("r[k]", "r[k+9]"), "NotFlat"), ("bench bench b|end|go", "InvalidText"), ("bench bench b|want a = q|end", "NoSuchName"), ("tell ", "InvalidLine"), ("TELL", "InvalidLine"),
            ("make two " + TWO.replace("0 to 1", "0 to 64"), "NotFlat"), ("net\n", "InvalidLine"), ("feed c\nfeed d", "InvalidLine"), ("make two a\nb", "InvalidLine"),
        ):
            self.talk(desk, (line, "no: " + name))
            self.assertEqual(self.kept(desk), before)
        for thing in JUNK:
            if not isinstance(thing, str):
                self.fails("NotUsable", ("text", -1), desk.say, thing)
                self.fails("NotUsable", ("text", -1), desk.say, text=thing)
        self.assertEqual(self.kept(desk), before)

    def test_against_the_functions(self):
        source = random.Random(97)
        words, refused = {}, {}
        for _ in range(40):
            desk = Desk()
            for _ in range(60):
                net, state, log = desk.net(), desk.state(), desk.log()
                order = some_order(source, net)
                line = order_line(order)
                try:
                    net, state, answer, is_logged = slow_say(net, state, order)
                    log += (line,) if is_logged else ()
                    words[order[0]] = words.get(order[0], 0) + 1
                except OhmError as error:
                    answer = "no: " + type(error).__name__
                    refused[answer] = refused.get(answer, 0) + 1
                self.same(desk.say(line), answer)
                self.same((desk.net(), desk.state(), desk.log()), (net, state, log))
                # Point 98: all positions are the readings.
                self.same(state[0], readings(net, state[1]))
                self.same(is_even(net, state), True)
            self.check_restored(desk)
        self.assertEqual(len(words), 19)
        self.assertGreater(min(refused[name] for name in ("no: NotUsable", "no: NoSuchName", "no: NameTwice", "no: StillUsed", "no: NotFlat")), 3)

    def check_restored(self, desk):
        text = saved(desk)
        self.same(text, "\n".join(desk.log()))
        other = restored(text)
        self.assertEqual(self.kept(other), self.kept(desk))
        self.same(saved(other), text)
        self.same(restored(text=text).state(), desk.state())

    def test_saved_and_restored(self):
        self.check_restored(Desk())
        self.same(saved(Desk()), "")
        self.same((restored("").net(), restored("").log()), (BARE, ()))
        # Any lines may be said, also those that leave no trace.
        desk = restored("feed a\ntell\nnet\ngo 011\nbench bench b|end")
        self.same((desk.log(), desk.state()), (("feed a", "go 011"), ((), (0, 1, 1))))
        self.same(restored("feed no\ntank no2 1\nflicker 01x").log(), ("feed no", "tank no2 1"))
        for text in ("\n", "feed a\n", "\nfeed a", "feed a\nfeed a", "go 010", "feed a\n\nfeed b", "nothing", "feed a\ntell it", " "):
            self.fails("InvalidLine", ("no",), restored, text)
            self.fails("InvalidLine", ("no",), restored, text=text)
        self.refuses(restored, {"text": ""}, {"text": [thing for thing in JUNK if not isinstance(thing, str)]})
        self.same(saved(desk=desk), "feed a\ngo 011")

    def test_two_desks_beside_one_another(self):
        one, other = Desk(), Desk()
        self.talk(one, ("feed a", "ok"))
        self.same((other.net(), other.log()), (BARE, ()))
        copy = restored(saved(one))
        self.talk(copy, ("feed b", "ok"))
        self.same((one.net()[0], copy.net()[0]), (("low", "high", "a"), ("low", "high", "a", "b")))

    def test_a_flicker_called_no(self):
        """An answer that begins like a refusal's, but is none."""
        desk = Desk()
        lines = ("feed a", "tank no 1", "tie 1 low no", "one 2 a high no", "zero 2 a high no", "go 010")
        self.talk(desk, *((line, "ok") for line in lines[:-1]), (lines[-1], "depth 1"), ("flicker 011", "no"))
        self.same(restored("\n".join(lines + ("flicker 011",))).log(), lines)
