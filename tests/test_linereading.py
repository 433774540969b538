"""Point 23: the lines of books."""

import random

from everyohm.linereading import read_line
from grammar import LINE, all_begun, first_bad
from helpers import Case, junk_but

A, LOW, HIGH = ("wire", "a"), ("rail", 0), ("rail", 1)
K, ONE = ("var", "k"), ("num", 1)
LINES = (
    ("", ()), ("   ", ()), ("# module m", ()), ("  # [", ()),
    ("module m", ("module", "m")), (" module   m#", ("module", "m")), ("module low_", ("module", "low_")),
    ("end", ("end",)), ("end # in a", ("end",)),
    ("in a", ("ports", (("in", 0, "a", 0),))),
    ("in a b[4] a", ("ports", (("in", 0, "a", 0), ("in", 0, "b", 4), ("in", 0, "a", 0)))),
    ("in b [ 1 ]c[32]", ("ports", (("in", 0, "b", 1), ("in", 0, "c", 32)))),
    ("io 1 s", ("ports", (("io", 1, "s", 0),))),
    ("io 2 s t [3]", ("ports", (("io", 2, "s", 0), ("io", 2, "t", 3)))),
    ("tank 4 q r[2]", ("items", (("tank", 4, "q", 0), ("tank", 4, "r", 2)))),
    ("one 1 a low high", ("items", (("switch", "one", 1, A, LOW, HIGH),))),
    ("zero 6 high a a", ("items", (("switch", "zero", 6, HIGH, A, A),))),
    ("tie 3 low a[k]", ("items", (("switch", "tie", 3, None, LOW, ("item", "a", K)),))),
    ("one 2 a[2*k+1] b[(k)] c", ("items", (("switch", "one", 2, ("item", "a", ("plus", ("times", ("num", 2), K), ONE)),
                                             ("item", "b", K), ("wire", "c")),))),
    ("use m u", ("items", (("use", "m", "u", ()),))),
    ("use m m a low a[1] high", ("items", (("use", "m", "m", (A, LOW, ("item", "a", ONE), HIGH)),))),
    ("for k 0 to 3", ("for", "k", ("num", 0), ("num", 3))),
    ("for k k-1 to (k)*k", ("for", "k", ("minus", K, ONE), ("times", K, K))),
    ("tank 1 ports", ("items", (("tank", 1, "ports", 0),))),
)
BAD_LINES = (
    ("tank 1 q[33]", 4), ("for k 0 to", 4), ("tank 1 q[0]", 4), ("tank 1 q[032]", 4), ("tank 1 q[]", 4), ("tank 1 q[3", 5),
    ("tank 1 q[3 r", 5), ("tank 1 q[k]", 4), ("tank 1 q[1+1]", 5), ("tank", 1), ("tank 1", 2), ("tank 0 q", 1), ("tank 5 q", 1),
    ("tank q", 1), ("tank 01 q", 1), ("tank 1 low", 2), ("tank 1 q x", 3), ("tank 1 q q[1] to", 7), ("tank 1 [", 2),
    ("tank 1 q 2", 3), ("tank 1 q]", 3), ("tank 1 q[1]]", 6), ("tank 1 q[1][1]", 6),
    ("module", 1), ("module x", 1), ("module end", 1), ("module m m", 2), ("module 1", 1), ("module M", 1), ("module m[1]", 2),
    ("end end", 1), ("end 1", 1), ("ends", 0), ("End", 0), ("x", 0), ("q", 0), ("1", 0), ("[", 0), ("low", 0), ("to", 0), ("-", 0),
    ("in", 1), ("in 1 a", 1), ("in a,b", 2), ("in a[1", 4), ("in high", 1), ("in a in", 2), ("in a[ 99 ]", 3),
    ("io", 1), ("io s", 1), ("io 0 s", 1), ("io 5 s", 1), ("io 2", 2), ("io 2 s 1", 3), ("io 10 s", 1),
    ("one", 1), ("one 0 a a a", 1), ("one 7 a a a", 1), ("one a a a", 1), ("one 1", 2), ("one 1 a a", 4), ("one 1 a a a a", 5),
    ("one 1 a a a low", 5), ("one 1 1 a a", 2), ("one 1 a[ a a", 5), ("one 1 a[k a a", 5), ("one 1 a[] a a", 4),
    ("one 1 a[x] a a", 4), ("one 1 low[1] a a", 3), ("one 1 a a high[0]", 5), ("zero 1 a in a", 3), ("zero 1 a a to", 4),
    ("tie", 1), ("tie 1", 2), ("tie 1 a", 3), ("tie 1 a a a", 4), ("tie 7 a a", 1), ("tie 1 a[(k] a", 6), ("tie 1 a[k)] a", 5),
    ("use", 1), ("use m", 2), ("use m low", 2), ("use low u", 1), ("use m u 1", 3), ("use m u x", 3), ("use m u a[1", 6),
    ("use m u a,b", 4), ("use m[1] u", 2), ("use m u[1]", 3), ("use m u to", 3),
    ("for", 1), ("for k", 2), ("for k 0", 3), ("for k to 3", 2), ("for to 0 to 1", 1), ("for k 0 1", 3), ("for k 0 to 3 4", 5),
    ("for k 0 to 3 to 4", 5), ("for k 0+ to 1", 4), ("for k (0 to 1", 4), ("for k 0 to (1", 6), ("for k 0 to 1)", 5),
    ("for 1 0 to 1", 1), ("for k 0 to low", 4), ("for k 1000000 to 1", 2), ("for k[1] 0 to 1", 2), ("for k 0 to # 1", 4),
    ("tank 1 q#[", None), ("module # m", 1), ("in # a", 1), ("one 2 a low # high", 4),
)


class LinesTest(Case):
    def test_lines(self):
        for text, wanted in LINES:
            with self.subTest(text=text):
                self.gives(wanted, read_line, text=text)

    def test_bad_lines(self):
        for text, word in BAD_LINES:
            if word is None:
                self.same(read_line(text), ("items", (("tank", 1, "q", 0),)))
                continue
            with self.subTest(text=text):
                self.fails("InvalidText", (0, word), read_line, text)
                self.fails("InvalidText", (0, word), read_line, text=text)

    def test_bounds_of_numbers(self):
        for number in ("0", "1", "4", "5", "6", "7", "32", "33", "10", "01", "1000000", "999999"):
            for words, place, most in (
                (("tank", number, "q"), 1, 4), (("io", number, "q"), 1, 4), (("one", number, "a", "a", "b"), 1, 6),
                (("zero", number, "a", "a", "b"), 1, 6), (("tie", number, "a", "b"), 1, 6), (("in", "a", "[", number, "]"), 3, 32),
                (("tank", "1", "a", "[", number, "]", "b"), 4, 32), (("io", "1", "b", "a", "[", number, "]"), 5, 32),
            ):
                if number == str(int(number)) and 1 <= int(number) <= most:
                    self.assertIn(read_line(" ".join(words))[0], ("ports", "items"))
                else:
                    self.fails("InvalidText", (0, place), read_line, " ".join(words))

    def test_first_bad_word_of_all_short_lines(self):
        words = ("module", "end", "in", "io", "tank", "one", "tie", "use", "for", "to", "low", "3", "7", "k", "[", "]", "+", "(", ")")
        for row in all_begun(LINE, words, 4):
            for more in [()] + [(word,) for word in words] + [(word, "k") for word in ("k", "[", "9", "x")]:
                self.check_row(row + more)

    def test_first_bad_word_of_random_lines(self):
        source = random.Random(23)
        words = ("to", "low", "high", "2", "5", "33", "k", "k", "q", "[", "[", "]", "]", "+", "*", "(", ")", "x", "in")
        firsts = ("module", "end", "in", "io", "tank", "one", "zero", "tie", "use", "for")
        for _ in range(3000):
            row = (source.choice(firsts),)
            for _ in range(source.randrange(14)):
                more = [word for word in words if first_bad(LINE, row + (word,)) in (-1, len(row) + 1)]
                row += (source.choice(more or words) if source.random() < 0.97 else source.choice(words),)
            self.check_row(row)

    def check_row(self, row):
        bad = first_bad(LINE, row)
        if bad == -1:
            self.assertIsInstance(read_line(" ".join(row)), tuple)
        else:
            self.fails("InvalidText", (0, bad), read_line, " ".join(row))

    def test_wrong_arguments(self):
        bad = junk_but(lambda thing: isinstance(thing, str) and "\n" not in thing)
        self.refuses(read_line, {"text": "end"}, {"text": bad + ["\n", "end\n", "\nend", "module m\nend", "tank 9\n"]})
