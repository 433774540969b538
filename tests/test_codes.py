"""Point 83: notes and codes of benches."""

import random

from everyohm.codes import code_of, notes_of
from helpers import BARE, CROSS, DOUBLE, JUNK, NETS, TURNER, Case
from slowbenches import names_of, slow_code, slow_code_error, slow_notes, some_bench, some_lines

A, Q, N = ("at", "a"), ("at", "q"), ("at", "n")
GO, X = ("go",), ("val", 2)
NO_BENCHES = JUNK + (("b",), ("x", ()), ("b", [GO]), ["b", ()], ("b", (["go"],)), ("b", (("set", "a", None),)), ("b", (("times", 65, ()),)))


class CodesTest(Case):
    def code(self, wanted, *lines, net=TURNER):
        self.gives(wanted, code_of, net=net, bench=("b", lines))
        self.same(slow_code(net, ("b", lines)), wanted)

    def test_plain_lines(self):
        self.code(())
        self.code((GO,), GO)
        self.code((("set", 2, ("val", 1)), GO, ("want", 3, A), ("let", "n", Q), ("any", ("m", "n")), ("want", 0, N)),
            ("set", "a", ("val", 1)), GO, ("want", "q", A), ("let", "n", Q), ("any", ("m", "n")), ("want", "low", N))
        self.code((("want", 0, X), ("want", 1, X)), ("want", "low", X), ("want", "high", X), net=BARE)

    def test_blocks(self):
        self.code((GO,) * 3, ("times", 3, (GO,)))
        self.code((), ("times", 0, (GO, ("loop", ()))))
        self.code((), ("times", 64, ()))
        self.code((("fork", 2), ("jump", 0)), ("loop", ()))
        self.code((GO, ("fork", 4), GO, ("jump", 1), GO), GO, ("loop", (GO,)), GO)
        self.code((("fork", 6), ("fork", 4), GO, ("jump", 1), GO, ("jump", 0), ("fork", 8), ("jump", 6)), ("loop", (("loop", (GO,)), GO)), ("loop", ()))
        self.code((("fork", 3), GO, ("jump", 0), ("fork", 6), GO, ("jump", 3), ("let", "n", X)), ("times", 2, (("loop", (GO,)),)), ("let", "n", X))
        self.code((("fork", 4), GO, GO, ("jump", 0)), ("loop", (("times", 2, (GO,)),)))
        # Many passes through nothing are done at once.
        empty = ()
        for _ in range(6):
            empty = (("times", 64, empty),)
        self.gives((), code_of, net=TURNER, bench=("b", empty))
        self.gives((GO,), code_of, net=TURNER, bench=("b", (("times", 1, (GO,) + empty[0][2]),)))

    def test_random_benches(self):
        source = random.Random(83)
        for _ in range(300):
            net = source.choice((TURNER, DOUBLE, CROSS, BARE))
            bench = some_bench(source, net)
            self.same(slow_code_error(net, bench), None)
            self.gives(slow_code(net, bench), code_of, net=net, bench=bench)
            self.gives(slow_notes(bench), notes_of, bench=bench)

    def test_notes(self):
        self.gives((), notes_of, bench=("b", (GO, ("set", "a", N), ("want", "m", N))))
        self.gives(("a", "m", "n", "z"), notes_of, bench=("b", (("any", ("z", "m")), ("let", "n", A), ("times", 0, (("let", "a", X), ("loop", (("any", ("m",)),)))))))
        self.gives(("a1", "a_1", "aa"), notes_of, bench=("b", (("any", ("aa", "a_1", "a1")),)))

    def test_four_hundred_rows(self):
        for many, lines in (
            (400, (GO,) * 400), (401, (GO,) * 401), (400, (("times", 50, (("times", 8, (GO,)),)),)), (401, (("times", 50, (("times", 8, (GO,)),)), GO)),
            (400, (("loop", (("times", 2, (GO,) * 199),)),)), (401, (("loop", (("times", 2, (GO,) * 199),)), GO)), (400, (("times", 40, (("loop", (GO,) * 8),)),)),
            (410, (("times", 41, (("loop", (GO,) * 8),)),)), (64 ** 6, (("times", 64, (("times", 64, (("times", 64, (("times", 64, (("times", 64, (("times", 64, (GO,)),)),)),)),)),)),)),
        ):
            if many <= 400:
                self.assertEqual(len(code_of(TURNER, ("b", lines))), 400)
            else:
                self.fails("TooMany", (400,), code_of, TURNER, ("b", lines))

    def test_names(self):
        for error, fields, lines in (
            ("NotFlat", ("feed", "q"), (("set", "q", X),)), ("NotFlat", ("feed", "low"), (("set", "low", X),)), ("NotFlat", ("feed", "high"), (("set", "high", X),)),
            ("NotFlat", ("feed", "zz"), (("set", "zz", ("at", "yy")),)), ("NotFlat", ("feed", "n"), (("let", "n", X), ("set", "n", X))),
            ("NoSuchName", ("zz",), (("want", "zz", ("at", "yy")),)), ("NoSuchName", ("n",), (("any", ("n",)), ("want", "n", X))),
            ("NoSuchName", ("yy",), (("set", "a", ("at", "yy")),)), ("NoSuchName", ("yy",), (("want", "q", ("and", A, ("or", ("at", "yy"), ("at", "zz")))),)),
            ("NoSuchName", ("yy",), (("let", "n", ("not", ("at", "yy"))),)), ("NameTwice", ("a",), (("let", "a", ("at", "zz")),)), ("NameTwice", ("low",), (("let", "low", X),)),
            ("NameTwice", ("q",), (("any", ("m", "q", "a")),)), ("NameTwice", ("a",), (("any", ("a", "q")),)),
            # The first line counts, those of blocks once and also with 0 times; then the number of rows.
            ("NoSuchName", ("yy",), (("times", 0, (("want", "q", ("at", "yy")),)), ("let", "a", X))), ("NameTwice", ("a",), (("loop", (("let", "a", X),)), ("set", "q", X))),
            ("NotFlat", ("feed", "q"), (("times", 64, (GO,) * 9), ("set", "q", X))), ("NoSuchName", ("zz",), (("want", "zz", X), ("set", "q", X))),
            ("NameTwice", ("q",), (GO, ("any", ("q",)), ("want", "q", ("at", "zz")))),
        ):
            self.same(slow_code_error(TURNER, ("b", lines)), (error, fields))
            self.fails(error, fields, code_of, TURNER, ("b", lines))
            self.fails(error, fields, code_of, bench=("b", lines), net=TURNER)

    def test_a_note_may_be_read_before_it_is_made(self):
        self.code((("set", 2, N), ("let", "n", X)), ("set", "a", N), ("let", "n", X))
        self.code((("want", 3, N),), ("times", 0, (("let", "n", X),)), ("want", "q", N))

    def test_random_names(self):
        source = random.Random(831)
        seen = {}
        for _ in range(600):
            net = source.choice((TURNER, DOUBLE))
            pool = names_of(net) + ("m", "n1", "zz")
            names = tuple(tuple(source.sample(pool, source.randint(3, 6))) for _ in range(4))
            bench = ("b", some_lines(source, 2, 2, names))
            wanted = slow_code_error(net, bench)
            seen[wanted and wanted[0]] = seen.get(wanted and wanted[0], 0) + 1
            if wanted is None:
                self.same(code_of(net, bench), slow_code(net, bench))
            else:
                self.fails(wanted[0], wanted[1], code_of, net, bench)
        self.assertTrue(min(seen[name] for name in (None, "NotFlat", "NoSuchName", "NameTwice")) > 20, seen)

    def test_wrong_arguments(self):
        for net in NETS:
            self.refuses(code_of, {"net": net, "bench": ("b", ())}, {"bench": NO_BENCHES}, ("net",))
        self.refuses(notes_of, {"bench": ("b", ())}, {"bench": NO_BENCHES})
