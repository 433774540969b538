"""Point 70: moves of labs, and why something is none."""

import random

from everyohm.moves import reason_of, whole_settling
from bads import NO_QUOTIENTS, bad_numbers, bads, is_pair, near_row
from helpers import BARE, CROSS, FIGHT, JUNK, STORE, TURNER, Case
from nets import likely_net
from slowlabs import some_move
from slowpapers import as_lists, one_as_true
from slowranks import tanks_of

NO_PARTS = NO_QUOTIENTS + ((-1, 1), (2, 1), (-1, 10 ** 40), (10 ** 40 + 1, 10 ** 40))
HALF = (1, 2)


class MovesTest(Case):
    def reasons(self, wanted, net, base, moves):
        for move in moves:
            with self.subTest(move=move):
                self.gives(wanted, reason_of, net=net, base=base, move=move)

    def test_examples(self):
        self.gives("switch", reason_of, net=TURNER, base=2, move=("read", 0, (0, 1)))
        self.gives(("settle", 3, ((1, 1),)), whole_settling, net=TURNER, tank=3)

    def test_moves(self):
        self.reasons(None, TURNER, 2, (
            ("turn", ((0, 1), (1, 1), (0, 1))), ("turn", ((0, 1), (1, 1), (1, 1))), ("turn", ((0, 1), (1, 1), HALF)),
            ("feed", 2, (0, 1)), ("feed", 2, (1, 1)), ("feed", 2, HALF), ("read", 1, (0, 1)), ("read", 1, (32, 1)), ("read", 1, HALF),
            ("settle", 3, ((0, 1),)), ("settle", 3, ((1, 1),)), ("settle", 3, (HALF,)),
        ))
        self.reasons(None, BARE, 2, (("turn", ((0, 1), (1, 1))),))
        self.reasons(None, CROSS, 10 ** 9, (("read", 0, (10 ** 117, 1)), ("read", 5, (10 ** 45, 1)), ("settle", 7, (HALF,) * 4)))

    def test_shape(self):
        self.reasons("shape", TURNER, 2, JUNK + (
            ("turn",), ("turn", ((0, 1), (1, 1), (0, 1)), None), ("feed", 2), ("feed", 2, (0, 1), 1), ("read", 1), ("read", 1, (0, 1), ()),
            ("settle", 3), ("settle", 3, ((1, 1),), ((1, 1),)), ("settle",), ("Turn", ((0, 1), (1, 1), (0, 1))), ("go", 1), ("go", 1, 2),
            ["turn", ((0, 1), (1, 1), (0, 1))], ["settle", 3, ((1, 1),)], (["turn"], 1), (("turn",), 1), (None, 1, 2), (True, 1), ("", 1),
            "turn", ("feed2", 1, 1), ((), (), ()), ("turn" * 9, 1),
        ))

    def test_volts(self):
        volts = ((0, 1), (1, 1), HALF)
        heads = (((1, 1), (0, 1), HALF), ((0, 1), (0, 1), HALF), (HALF, (1, 1), HALF), ((1, 1), (1, 1), HALF), ((0, 1), HALF, HALF))
        bad = near_row(volts, NO_PARTS) + list(heads) + [None, 0, "", ()]
        self.reasons("volt", TURNER, 2, [("turn", thing) for thing in bad])
        self.reasons("volt", TURNER, 2, [("feed", 2, thing) for thing in NO_PARTS + JUNK if not is_pair(thing) or not 0 <= thing[0] <= thing[1]])

    def test_feeds(self):
        bad = [thing for thing in JUNK if not (type(thing) is int and thing in (2, 3))] + [0, 1, 4, -1, 8]
        self.reasons("feed", STORE, 2, [("feed", thing, HALF) for thing in bad])
        self.reasons("feed", STORE, 2, [("feed", thing, None) for thing in bad])
        self.reasons("feed", FIGHT, 2, [("feed", thing, HALF) for thing in (0, 1, 2, 3)])

    def test_readings(self):
        bad = [thing for thing in JUNK if not (type(thing) is int and thing == 1)] + [0, 2, -1, True]
        for flow in ((0, 1), None):
            self.reasons("switch", TURNER, 2, [("read", thing, flow) for thing in bad])
        beyond = ((-1, 1), (33, 1), (33 * 10 ** 40 - 10 ** 40 + 1, 10 ** 40), (-1, 10 ** 40))
        self.reasons("flow", TURNER, 2, [("read", 1, thing) for thing in NO_QUOTIENTS + beyond])
        self.reasons(None, TURNER, 3, [("read", 1, thing) for thing in ((33, 1), (243, 1), (1, 10 ** 40))])
        self.reasons("flow", TURNER, 3, [("read", 1, (244, 1))])

    def test_settlings(self):
        bad = [thing for thing in JUNK if not (type(thing) is int and 4 <= thing <= 7)] + [0, 3, 8, -4]
        for shares in ((HALF,) * 4, None):
            self.reasons("tank", CROSS, 2, [("settle", thing, shares) for thing in bad])
        self.reasons("shares", CROSS, 2, [("settle", 5, thing) for thing in near_row((HALF,) * 4, NO_PARTS)])
        self.reasons("shares", TURNER, 2, [("settle", 3, thing) for thing in (None, (), (1, 1), ((1, 1), (1, 1)), (2, 1), [(1, 1)])])

    def test_lists_and_bools(self):
        for move in (("turn", ((0, 1), (1, 1), HALF)), ("feed", 2, (1, 1)), ("read", 1, (1, 1)), ("settle", 3, ((1, 1),))):
            for other in list(as_lists(move)) + list(one_as_true(move)):
                self.assertIsNotNone(reason_of(TURNER, 2, other))

    def test_random_moves(self):
        source = random.Random(70)
        for _ in range(300):
            net = likely_net(source, 3, 4, 6)
            base = source.choice((2, 7, 10 ** 9))
            move = some_move(source, net, base, list(range(2, len(net[0]))))
            self.gives(None, reason_of, net=net, base=base, move=move)

    def test_whole_settlings(self):
        for net in (TURNER, CROSS, STORE):
            for tank in tanks_of(net):
                self.gives(("settle", tank, ((1, 1),) * len(net[1])), whole_settling, net=net, tank=tank)

    def test_wrong_arguments(self):
        for net in (TURNER, CROSS):
            good = {"net": net, "base": 2, "move": ("turn",)}
            self.refuses(reason_of, good, {"base": bad_numbers(2), "move": [None]}, ("net", "move"))
            self.refuses(whole_settling, {"net": net, "tank": len(net[0])}, bads(net), ("net",))
        self.fails("NotUsable", ("tank", -1), whole_settling, BARE, 2)
