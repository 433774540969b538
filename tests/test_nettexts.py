"""Points 32 and 33: the texts of nets and states."""

import random

from everyohm.netkinds import is_net
from everyohm.netreadings import read_net, read_state
from everyohm.nettexts import net_text, state_text
from helpers import BARE, CROSS, JUNK, LADDER, NETS, STORE, TURNER, Case, is_text, junk_but
from nets import some_net, some_state


class NetTextsTest(Case):
    def test_example(self):
        self.gives("net low high a\ntank q 1\ntie 1 high q\none 2 a low q", net_text, net=TURNER)
        self.gives("state 011 0 1x", state_text, net=TURNER, state=((1, 2), (0, 1, 1, 0)))

    def test_texts(self):
        self.gives("net low high", net_text, net=BARE)
        self.gives("state 01 - -", state_text, net=BARE, state=((), (0, 1)))
        self.gives(
            "net low high a b\ntank p 1\ntank q 4\ntank r.s[3] 2\ntank t 3\nzero 6 a p q\none 1 q r.s[3] low\n"
            "tie 3 high r.s[3]\none 2 p p b\nzero 2 r.s[3] a b\none 2 p q p", net_text, net=CROSS,
        )
        self.gives("state 01x0 0 x", state_text, net=STORE, state=((2,), (0, 1, 2, 0, 0)))

    def test_there_and_back(self):
        source = random.Random(32)
        for net in NETS + tuple(some_net(source, 4, 6, 9) for _ in range(300)):
            self.gives(net, read_net, text=net_text(net))
            state = some_state(source, net)
            self.gives(state, read_state, net=net, text=state_text(net, state))

    def test_wrong_states(self):
        bad = list(JUNK) + [((0, 2), (0, 1, 1, 0)), ((1, 2), (0, 1, 1)), [(1, 2), (0, 1, 1, 0)], ((1, True), (0, 1, 1, 0))]
        good = {"net": TURNER, "state": ((1, 2), (0, 1, 1, 0))}
        self.refuses(state_text, good, {"state": bad}, ("net",))


HEAD = "net low high a\ntank q 1\n"
BAD_NETS = (
    ("", 0, 0), (" net low high", 0, 0), ("net", None, "feeds"), ("nets low high", 0, 0), ("net low high ", 0, 3),
    ("net  low high", 0, 1), ("net low high x", 0, 3), ("net low  high", 0, 2), ("net low high a[01] x", 0, 3), ("net Low high", 0, 1),
    ("tank q 1", 0, 0), ("\nnet low high", 0, 0), ("net low high\n", 1, 0), ("net low high\n\ntank q 1", 1, 0),
    ("net low high\nnet low high", 1, 0), ("net low high\nfoo", 1, 0), ("net low high # a", 0, 3),
    ("net low high\n tank q 1", 1, 0), ("net low high\ntank", 1, 1), ("net low high\ntank q", 1, 2), ("net low high\ntank q ", 1, 2),
    ("net low high\ntank q 0", 1, 2), ("net low high\ntank q 5", 1, 2), ("net low high\ntank q 01", 1, 2),
    ("net low high\ntank q 1 ", 1, 3), ("net low high\ntank q 1 2", 1, 3), ("net low high\ntank x 1", 1, 1),
    ("net low high\ntank  q 1", 1, 1), ("net low high\ntank x 9 9", 1, 1), ("net low high\nTank q 1", 1, 0),
    ("net low high\ntank q 1\ntank r q", 2, 2), ("net low high\ntank q +1", 1, 2),
    (HEAD + "one", 2, 1), (HEAD + "one 0 a low q", 2, 1), (HEAD + "one 7 a low q", 2, 1), (HEAD + "one a low q", 2, 1),
    (HEAD + "one 1 a low", 2, 4), (HEAD + "one 1 a", 2, 3), (HEAD + "one 1", 2, 2), (HEAD + "one 1 a low q q", 2, 5),
    (HEAD + "one 1 a low q ", 2, 5), (HEAD + "one 1 x low q", 2, 2), (HEAD + "one 1 a x q", 2, 3), (HEAD + "one 1 a low Q", 2, 4),
    (HEAD + "one 1  low q", 2, 2), (HEAD + "zero 1 a low", 2, 4), (HEAD + "zero 1 a low q q", 2, 5), (HEAD + "zero 8 x", 2, 1),
    (HEAD + "tie 1 low", 2, 3), (HEAD + "tie 1 low q q", 2, 4), (HEAD + "tie 6 low x q", 2, 3), (HEAD + "tie 1", 2, 2),
    (HEAD + "tie", 2, 1), (HEAD + "tie 10 low q", 2, 1), (HEAD + "tie -1 low q", 2, 1), (HEAD + "two 1 a low q", 2, 0),
    (HEAD + "tie 1 low q\ntank r 1", 3, 0), (HEAD + "one 1 a low q\ntank", 3, 0), (HEAD + "tie 1 low q\ntie 1 low q\ntank r 1\nfoo", 4, 0),
    (HEAD + "tie 1 low q\nfoo\ntank r 1", 3, 0), (HEAD + "tie 1 low q\nnet low high", 3, 0), (HEAD + "tie 1 low no\nfoo", 3, 0),
    (HEAD + "tie 1 low -", 2, 3), (HEAD + "one 1 - low q", 2, 2), ("net low low\ntank", 1, 1), ("net x\ntank", 0, 1),
    ("net high low", None, "feeds"), ("net low", None, "feeds"), ("net a low high", None, "feeds"),
    ("net low high a a", None, "feed"), ("net low high low", None, "feed"), ("net low high a\ntank a 1", None, "tank"),
    (HEAD + "tank q 1", None, "tank"), ("net low high\ntank high 4", None, "tank"), (HEAD + "one 1 b low q", None, "gate"),
    (HEAD + "zero 1 b c d", None, "gate"), (HEAD + "one 1 a b q", None, "ends"), (HEAD + "one 1 a q b", None, "ends"),
    (HEAD + "one 1 a q q", None, "ends"), (HEAD + "tie 1 b q", None, "ends"), (HEAD + "tie 1 q q", None, "ends"),
    ("net low high\ntie 1 high q", None, "ends"), ("net high low\ntank q 1\ntank q 1\ntie 1 q q", None, "feeds"),
    (HEAD + "tie 1 b c\none 1 b low q", None, "ends"), ("net low high a a\ntank q 1\ntank q 1", None, "feed"),
    (HEAD + "tank q 2\ntie 1 q q", None, "tank"),
)


class NetReadingsTest(Case):
    def test_examples(self):
        self.fails("NotFlat", ("net", "ends"), read_net, "net low high\ntie 1 high q")
        self.same(read_net("net low high a\ntank q 1\ntie 1 high q\none 2 a low q"), TURNER)
        self.same(read_state(TURNER, "state 011 0 1x"), ((1, 2), (0, 1, 1, 0)))

    def test_bad_nets(self):
        for text, line, word in BAD_NETS:
            wanted = ("NotFlat", ("net", word)) if line is None else ("InvalidText", (line, word))
            with self.subTest(text=text):
                self.fails(*wanted, read_net, text)
                self.fails(*wanted, read_net, text=text)

    def test_every_text_that_is_read_is_the_text(self):
        source = random.Random(33)
        for _ in range(300):
            text = net_text(some_net(source, 3, 4, 5))
            at = source.randrange(len(text))
            other = text[:at] + source.choice(" \nax1a[") + text[at + source.randrange(2):]
            try:
                net = read_net(other)
            except ValueError:
                continue
            self.same(is_net(net), True)
            self.same(net_text(net), other)

    def test_bad_states(self):
        for net, text, word in (
            (TURNER, "", 0), (TURNER, "stat 011 0 1x", 0), (TURNER, "state", 1), (TURNER, "state ", 1), (TURNER, "state 011", 2),
            (TURNER, "state 011 0", 3), (TURNER, "state 011 0 ", 3), (TURNER, "state 011 0 1x ", 4), (TURNER, "state 011 0 1x 1", 4),
            (TURNER, "state  011 0 1x", 1), (TURNER, " state 011 0 1x", 0), (TURNER, "state 111 0 1x", 1), (TURNER, "state 001 0 1x", 1),
            (TURNER, "state 01 0 1x", 1), (TURNER, "state 0111 0 1x", 1), (TURNER, "state 012 0 1x", 1), (TURNER, "state - 0 1x", 1),
            (TURNER, "state 011 00 1x", 2), (TURNER, "state 011 - 1x", 2), (TURNER, "state 011 2 1x", 2), (TURNER, "state 011 q 1x", 2),
            (TURNER, "state 011 0 0x", 3), (TURNER, "state 011 0 xx", 3), (TURNER, "state 011 0 1", 3), (TURNER, "state 011 0 1xx", 3),
            (TURNER, "state 011 0 -", 3), (TURNER, "state 011 0 12", 3), (TURNER, "state 111 9 9 9", 1), (TURNER, "foo 111", 0),
            (BARE, "state 01 0 -", 2), (BARE, "state 01  -", 2), (BARE, "state 01 - 1", 3), (BARE, "state 01 -", 3), (BARE, "state 01", 2),
            (LADDER, "state 01 xx 12", 3), (LADDER, "state 01 xx 11 11", 4),
        ):
            with self.subTest(text=text):
                self.fails("InvalidText", (0, word), read_state, net, text)
                self.fails("InvalidText", (0, word), read_state, net=net, text=text)
        self.gives(((), (0, 1)), read_state, net=BARE, text="state 01 - -")

    def test_wrong_arguments(self):
        self.refuses(read_net, {"text": ""}, {"text": junk_but(is_text)})
        self.refuses(read_state, {"net": TURNER, "text": ""}, {"text": junk_but(is_text)}, ("net",))
