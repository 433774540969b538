"""Points 81 and 82: benches, reading them, their texts."""

import random

from everyohm.benchreading import is_bench, read_bench
from everyohm.benchtexts import bench_text
from helpers import JUNK, Case
from slowbenches import slow_is_bench, slow_read_bench, some_lines
from slowpapers import as_lists, changes, one_as_true

A, GO = ("at", "a"), ("go",)
NAMES = (("a", "c.d", "e[0]"), ("q", "low", "go.end[7]"), ("m", "n", "end", "go", "bench", "set", "a1_"), ("a", "m", "q.r[2]"))


def nest(depth, line=GO, word="loop"):
    """Return lines in so many blocks."""
    for _ in range(depth):
        line = ("loop", (line,)) if word == "loop" else ("times", 2, (line,))
    return (line,)


class BenchesTest(Case):
    def test_example(self):
        bench = ("b", (("loop", (GO,)),))
        self.gives("bench b\n  loop\n    go\n  end\nend", bench_text, bench=bench)
        self.gives(bench, read_bench, text="bench b\n  loop\n    go\n  end\nend")

    def test_each_line(self):
        for text, line in (
            ("set a = 0", ("set", "a", ("val", 0))), ("set alu.q[3] = !a&x", ("set", "alu.q[3]", ("and", ("not", A), ("val", 2)))), ("go", GO),
            ("want q = (a|b)&1", ("want", "q", ("and", ("or", A, ("at", "b")), ("val", 1)))), ("let n = a^n", ("let", "n", ("xor", A, ("at", "n")))),
            ("any m", ("any", ("m",))), ("any n m a b c d", ("any", ("n", "m", "a", "b", "c", "d"))),
            ("times 0\n  end", ("times", 0, ())), ("times 64\n    go\n  end", ("times", 64, (GO,))), ("loop\n  end", ("loop", ())),
            # Names may be words of lines.
            ("set go = end", ("set", "go", ("at", "end"))), ("let let = set", ("let", "let", ("at", "set"))), ("any any end bench", ("any", ("any", "end", "bench"))),
            ("want loop = times", ("want", "loop", ("at", "times"))),
        ):
            bench = ("bench", (line,))
            full = "bench bench\n  " + text + "\nend"
            self.gives(True, is_bench, thing=bench)
            self.gives(bench, read_bench, text=full)
            self.gives(full, bench_text, bench=bench)

    def test_there_and_back(self):
        source = random.Random(81)
        for _ in range(300):
            bench = (source.choice(("b", "end", "bench", "b_1")), some_lines(source, 6, 4, NAMES))
            text = bench_text(bench)
            self.gives(True, is_bench, thing=bench)
            self.gives(bench, read_bench, text=text)
            self.same(slow_read_bench(text), bench)
            self.same(read_bench(self.spread_out(source, text)), bench)

    def spread_out(self, source, text):
        """Return the text with more spaces and with lines without words."""
        rows = []
        for row in text.split("\n"):
            rows += [" " * source.randrange(3)] * source.choice((0, 0, 1, 2))
            rows.append(" " * source.randrange(3) + row.strip().replace(" ", " " * source.randint(1, 3)) + " " * source.randrange(3))
        return "\n".join(rows + [""] * source.randrange(3))

    def test_six_blocks_and_a_seventh(self):
        for word in ("loop", "times"):
            for depth in range(6, 9):
                bench = ("b", nest(depth, word=word))
                self.gives(depth == 6, is_bench, thing=bench)
            six = bench_text(("b", nest(6, word=word))).split("\n")
            self.same(read_bench("\n".join(six)), ("b", nest(6, word=word)))
            head = six[1].strip()
            seven = six[:7] + [head, "go", "end"] + six[7:]
            self.fails("InvalidText", (7, 0), read_bench, "\n".join(seven))
            self.fails("InvalidText", (7, 0), read_bench, "\n".join(six[:7] + [head]))
        # Blocks beside one another are not deeper.
        wide = ("b", nest(6) * 3)
        self.same(read_bench(bench_text(wide)), wide)

    def test_bad_lines(self):
        for row in (
            "set a 0", "set a =", "set a = ", "set = 0", "set", "set a = 0 1", "set a == 0", "set a= 0", "set a =0", "set A = 0", "set a.x = 0", "set x = 0", "set a = A",
            "set a = a b", "set a = (a", "set a = a&", "set a = 2", "set a = !!!!!!!!a", "want", "want q", "want q 1", "want q = q =", "let n", "let n.m = 0", "let n[0] = 0",
            "let x = 0", "let " + "n" * 17 + " = 0", "any", "any x", "any m m", "any a b c d e f g", "any m.n", "any m, n", "times", "times 65", "times 03", "times -1", "times 1000000",
            "times a", "times 3 4", "times 1.0", "loop 3", "go 1", "go a", "gO", "end end", "end b", "bench b", "bench", "bench c d", "tell", "=", "a", "0", "#", "# go", "go # x",
            "set a = 0;", "times 00", "times +1", "module m", "want q != 0",
        ):
            for at, text in ((1, f"bench b\n{row}\nend"), (2, f"bench b\nloop\n {row}\nend\nend"), (3, f"bench b\n\n \n{row}\nbad"), (2, f"bench b\ngo\n{row}")):
                self.fails("InvalidText", (at, 0), read_bench, text)
                self.same(slow_read_bench(text), ("InvalidText", (at, 0)))

    def test_first_and_last_lines(self):
        for wanted, text in (
            (("InvalidText", (0, 0)), ""), (("InvalidText", (0, 0)), "\n  \n "), (("InvalidText", (0, 0)), "go"), (("InvalidText", (2, 0)), "\n \ngo\nbench b"),
            (("InvalidText", (0, 0)), "end"), (("InvalidText", (0, 0)), "bench x\nend"), (("InvalidText", (0, 0)), "bench b.c\nend"), (("InvalidText", (0, 0)), "bench\nend"),
            (("InvalidText", (0, 0)), "bench b c\nend"), (("InvalidText", (2, 0)), "bench b\nend\nend"), (("InvalidText", (4, 0)), "bench b\nend\n\n \ngo"),
            (("InvalidText", (2, 0)), "bench b\nend\nbench c\nend"), (("InvalidText", (1, 0)), "bench b\nbench c\nend"), (("InvalidText", (2, 0)), "bench b\nend\nwhat"),
            (("Unended", (0,)), "bench b"), (("Unended", (1,)), "\nbench b\n\n"), (("Unended", (0,)), "bench b\nloop\nend"), (("Unended", (1,)), "bench b\nloop"),
            (("Unended", (3,)), "bench b\nloop\n\n times 2\ngo"), (("Unended", (1,)), "bench b\nloop\ntimes 2\nend\ngo\n"), (("InvalidText", (2, 0)), "bench b\nloop\nbad"),
            (("InvalidText", (0, 0)), "set a = 0\nbad"), (("InvalidText", (1, 0)), "bench b\nbad\nworse"),
        ):
            self.same(slow_read_bench(text), wanted)
            self.fails(wanted[0], wanted[1], read_bench, text)
            self.fails(wanted[0], wanted[1], read_bench, text=text)
        self.gives(("b", ()), read_bench, text="bench b\nend")
        self.gives(("b", ()), read_bench, text="\n\n  bench   b  \n\n end \n ")

    def test_changed_texts(self):
        source = random.Random(82)
        parts = ("go", "end", "loop", "times 2", "bench b", "any m", "set a = 0", "", " ", "bad", "want q = a", "let n = x", "times 65", "any m m")
        seen = {}
        for _ in range(3000):
            rows = bench_text(("b", some_lines(source, 4, 3, NAMES))).split("\n")
            for _ in range(source.randint(0, 2)):
                at = source.randint(0, len(rows))
                rows[at:at + source.randrange(2)] = [source.choice(parts)]
            text = "\n".join(rows)
            wanted = slow_read_bench(text)
            seen[wanted[0]] = seen.get(wanted[0], 0) + 1
            if wanted[0] in ("InvalidText", "Unended"):
                self.fails(wanted[0], wanted[1], read_bench, text)
            else:
                self.same(read_bench(text), wanted)
        self.assertGreater(min(seen["b"], seen["InvalidText"], seen["Unended"]), 150)

    def test_is_bench(self):
        for thing in JUNK + (
            ("b",), ("b", (), ()), ("b", []), ["b", ()], ("x", ()), ("b.c", ()), (("b",), ()), ("b", GO), ("b", ("go",)), ("b", (("go", 1),)), ("b", ((),)), ("b", (("end",),)),
            ("b", (["go"],)), ("b", (("set", "a"),)), ("b", (("set", "a", 0),)), ("b", (("set", "x", A),)), ("b", (("set", "a", A, A),)), ("b", (("let", "a.b", A),)),
            ("b", (("any", ()),)), ("b", (("any", ("m", "m")),)), ("b", (("any", ["m"]),)), ("b", (("any", "m"),)), ("b", (("any", ("a.b",)),)), ("b", (("any", tuple("abcdefg")),)),
            ("b", (("times", 65, ()),)), ("b", (("times", -1, ()),)), ("b", (("times", True, ()),)), ("b", (("times", "2", ()),)), ("b", (("times", 2),)), ("b", (("times", 2, []),)),
            ("b", (("loop",),)), ("b", (("loop", GO),)), ("b", (("loop", 2, ()),)), ("b", (("fork", 2),)), ("b", ((("go",),),)), ("b", ((None,),)), ("b", (GO, None)),
        ):
            self.gives(False, is_bench, thing=thing)
            self.same(slow_is_bench(thing), False)
        self.gives(True, is_bench, thing=("b", ()))
        self.gives(True, is_bench, thing=("b", (GO, ("any", tuple("abcdef")), ("want", "low", A), ("times", 0, (("loop", ()),)))))

    def test_one_thing_changed(self):
        source = random.Random(811)
        for _ in range(12):
            bench = ("b", some_lines(source, 4, 2, NAMES))
            for other in changes(bench, (None, True, 0, 2, 65, "a", "x", "go", "loop", "a.b", (), A, GO, [])):
                self.same(is_bench(other), slow_is_bench(other))
            for other in list(as_lists(bench)) + list(one_as_true(bench)):
                self.same(is_bench(other), False)

    def test_wrong_arguments(self):
        self.refuses(read_bench, {"text": "bench b\nend"}, {"text": [thing for thing in JUNK if not isinstance(thing, str)]})
        self.refuses(bench_text, {"bench": ("b", ())}, {"bench": list(JUNK) + [("b",), ("b", [GO]), ("b", nest(7)), ("x", ()), ["b", ()]]})
