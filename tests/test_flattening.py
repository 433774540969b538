"""Point 29: nets from books."""

import random

from books import some_book
from everyohm.bookkinds import is_book
from everyohm.bookreading import read_book
from everyohm.errors import NotFlat
from everyohm.flattening import flat
from everyohm.kinds import is_name
from everyohm.netkinds import is_net
from helpers import Case, junk_but
from slowflat import Bad, reference


def module(text, name="m"):
    """Return the text of a module with lines parted by ;."""
    return f"module {name}\n" + text.replace(";", "\n") + "\nend\n"


def chain(many, inner=""):
    """Return modules m0 to m(many), each but the last using the next."""
    rows = [module(f"use m{at + 1} u", f"m{at}") for at in range(many)]
    return "".join(rows) + module(inner, f"m{many}")


class FlatTest(Case):
    def net(self, text, wanted, top="m"):
        with self.subTest(text=text):
            book = read_book(text)
            self.assertTrue(is_book(book))
            self.gives(wanted, flat, book=book, top=top)
            self.assertTrue(is_net(wanted))

    def bad(self, text, reason, name, top="m"):
        with self.subTest(text=text):
            book = read_book(text)
            self.fails("NotFlat", (reason, name), flat, book, top)
            self.fails("NotFlat", (reason, name), flat, book=book, top=top)

    def fine(self, text, top="m"):
        with self.subTest(text=text):
            net = flat(read_book(text), top)
            self.assertTrue(is_net(net))
            return net

    def test_example(self):
        text = "module two\nin a\nfor k 0 to 1\ntank 1 r\none 2 a low r\nend\nend"
        self.net(text, (
            ("low", "high", "a"), (("r[0]", 1), ("r[1]", 1)), (("one", 2, 2, 0, 3), ("one", 2, 2, 0, 4)),
        ), "two")

    def test_ports(self):
        self.net(module(""), (("low", "high"), (), ()))
        self.net(module("io 2 s t[2];in a;io 4 u;in b[3];tank 3 q[1] r"), (
            ("low", "high", "a", "b[0]", "b[1]", "b[2]"),
            (("s", 2), ("t[0]", 2), ("t[1]", 2), ("u", 4), ("q[0]", 3), ("r", 3)), (),
        ))
        self.net(module("in a[2];io 1 s;one 3 a[1] s a[0];tie 1 high s"), (
            ("low", "high", "a[0]", "a[1]"), (("s", 1),), (("one", 3, 3, 4, 2), ("tie", 1, -1, 1, 4)),
        ))

    def test_gates_and_ends_may_be_rails(self):
        self.net(module("io 1 s;one 1 low high s;zero 1 high low high;one 2 s s low"), (
            ("low", "high"), (("s", 1),), (("one", 1, 0, 1, 2), ("zero", 1, 1, 0, 1), ("one", 2, 2, 2, 0)),
        ))

    def test_loops_within_loops(self):
        self.net(module("for k 0 to 1;for j k to 1;tank 1 q;tie 1 low q;end;end;tie 2 high q[0]", "m").replace(
            "tie 2 high q[0]", "for i 0 to 1;tie 2 high q[1];end".replace(";", "\n")), (
            ("low", "high"), (("q[0][0]", 1), ("q[0][1]", 1), ("q[1][1]", 1)),
            (("tie", 1, -1, 0, 2), ("tie", 1, -1, 0, 3), ("tie", 1, -1, 0, 4), ("tie", 2, -1, 1, 3), ("tie", 2, -1, 1, 4)),
        ))
        self.net(module("for k 3 to 4;tank 1 q;end;for j 0 to 1;tie 1 q[j+3] low;tie 1 q[4-j] high;end;tie 2 q[3] q[4]"), (
            ("low", "high"), (("q[3]", 1), ("q[4]", 1)),
            (("tie", 1, -1, 2, 0), ("tie", 1, -1, 3, 1), ("tie", 1, -1, 3, 0), ("tie", 1, -1, 2, 1), ("tie", 2, -1, 2, 3)),
        ))
        self.net(module("for k 1 to 2;for k k*10 to k*10+1;tank 1 q;end;tank 2 r;end"), (
            ("low", "high"),
            (("q[1][10]", 1), ("q[1][11]", 1), ("r[1]", 2), ("q[2][20]", 1), ("q[2][21]", 1), ("r[2]", 2)), (),
        ))

    def test_names_by_the_outermost_loops(self):
        text = module("for k 0 to 1;tank 1 q;for j 0 to 1;tie 1 q low;tie 2 q[j*0] high;end;end;for i 1 to 1;tie 3 q low;end")
        self.net(text, (("low", "high"), (("q[0]", 1), ("q[1]", 1)), (
            ("tie", 1, -1, 2, 0), ("tie", 2, -1, 2, 1), ("tie", 1, -1, 2, 0), ("tie", 2, -1, 2, 1),
            ("tie", 1, -1, 3, 0), ("tie", 2, -1, 2, 1), ("tie", 1, -1, 3, 0), ("tie", 2, -1, 2, 1), ("tie", 3, -1, 3, 0),
        )))

    def test_loops_without_passes(self):
        self.net(module("for k 1 to 0;tank 1 q;one 1 nothing low low;use none u;end;tank 1 q"), (("low", "high"), (("q", 1),), ()))
        self.net(module("for k 0 to 0-5;end;for k 999999 to 0;end"), (("low", "high"), (), ()))

    def test_uses(self):
        inner = module("in a;io 3 s;tank 2 q;one 1 a s q", "inner")
        self.net(module("in a b;io 1 s;use inner u b s;use inner v s low;tie 1 s a") + inner, (
            ("low", "high", "a", "b"), (("s", 1), ("u.q", 2), ("v.q", 2)),
            (("one", 1, 3, 4, 5), ("one", 1, 4, 0, 6), ("tie", 1, -1, 4, 2)),
        ))
        self.net(inner + module("tank 1 s;for k 0 to 1;for j 2 to 2;use inner u high s;end;end"), (
            ("low", "high"), (("s", 1), ("u[0][2].q", 2), ("u[1][2].q", 2)), (("one", 1, 1, 2, 3), ("one", 1, 1, 2, 4)),
        ))

    def test_uses_in_uses(self):
        low = module("io 1 s;for k 0 to 1;tank 1 q;tie 1 q s;end", "c")
        mid = module("io 1 r;tank 2 t;use c u t;use c v r", "b")
        self.net(module("for i 5 to 5;tank 3 w;use b u w;end") + mid + low, (
            ("low", "high"),
            (("w[5]", 3), ("u[5].t", 2), ("u[5].u.q[0]", 1), ("u[5].u.q[1]", 1), ("u[5].v.q[0]", 1), ("u[5].v.q[1]", 1)),
            (("tie", 1, -1, 4, 3), ("tie", 1, -1, 5, 3), ("tie", 1, -1, 6, 2), ("tie", 1, -1, 7, 2)),
        ))

    def test_buses(self):
        inner = module("in a[3];io 1 s[1];one 1 a[2] s[0] a[0]", "inner")
        self.net(module("in a[3];io 2 t[1];tank 1 q[3];use inner u a t;use inner v q t") + inner, (
            ("low", "high", "a[0]", "a[1]", "a[2]"),
            (("t[0]", 2), ("q[0]", 1), ("q[1]", 1), ("q[2]", 1)),
            (("one", 1, 4, 5, 2), ("one", 1, 8, 5, 6)),
        ))
        self.net(module("in a[3];use deep u a") + module("in b[3];use inner v b", "deep")
                 + module("io 4 c[3];for k 0 to 1;tie 1 c[k] c[k+1];end", "inner"), (
            ("low", "high", "a[0]", "a[1]", "a[2]"), (), (("tie", 1, -1, 2, 3), ("tie", 1, -1, 3, 4)),
        ))

    def test_the_same_names_in_uses_and_around_them(self):
        self.net(module("in a;tank 1 q;use n u q") + module("in q;tank 2 a;one 1 q a low", "n"), (
            ("low", "high", "a"), (("q", 1), ("u.a", 2)), (("one", 1, 3, 4, 0),),
        ))

    def test_ahead_of_the_walk(self):
        self.bad(module("", "a") + module("", "b") + module("", "b") + module("", "a"), "twice", "b")
        self.bad(module("", "m") + module("", "m"), "twice", "m", "other")
        self.bad("", "top", "m")
        self.bad(module("", "n"), "top", "m")
        self.bad(module("", "n"), "top", "in", "in")
        self.bad(module("use m u", "m"), "ring", "m")
        self.bad(module("", "m") + module("use b u", "a") + module("use c u;use none u", "b") + module("use b v", "c"), "ring", "b")
        self.bad(module("for k 1 to 0;for j 0 to 1;use m u;end;end"), "ring", "m")
        self.bad(module("tank 1 q;tank 1 q") + module("use n u", "n"), "ring", "n")
        self.bad(module("use m u", "n") + module("use n u"), "ring", "n")
        self.bad(module("use m u", "n") + module(""), "top", "o", "o")

    def test_deep(self):
        self.net(chain(8, "tank 1 q"), (("low", "high"), ((".".join(["u"] * 8) + ".q", 1),), ()), "m0")
        self.bad(chain(9), "deep", "m0", "m0")
        self.fine(chain(9), "m1")
        self.bad(chain(30), "deep", "m3", "m3")
        self.bad(chain(9).replace("use m5 u", "for k 1 to 0\nuse m5 u\nend"), "deep", "m0", "m0")
        self.bad(chain(8, "use none u"), "module", "none", "m0")
        wide = module("use m0 u;use m4 v;use m8 w", "m") + chain(8)
        self.bad(wide, "deep", "m")
        self.fine(wide.replace("use m0 u", "use m1 u"))
        self.bad(module("use m u", "ring") .replace("use m u", "use ring u") + chain(9), "ring", "ring", "m0")

    def test_port_errors(self):
        self.bad(module("in a b a"), "twice", "a")
        self.bad(module("in a;io 1 a"), "twice", "a")
        self.bad(module("in b[32];in a[6] c"), "many", "c")
        self.fine(module("in b[32];in a[6]"))
        self.bad(module("in b[32];in a[7]"), "many", "a")
        self.bad(module("in b[32];in a[7] a"), "many", "a")
        self.bad(module("in b[32] b[32]"), "twice", "b")
        self.fine(module("io 1 a[32] b[32] c[32] d[24]"))
        self.bad(module("io 1 a[32] b[32] c[32] d[25]"), "many", "d")
        self.bad(module("io 1 a[32] b[32] c[32] d[24] e;in f"), "many", "e")
        self.bad(module("use n u;") + module("in a a", "n"), "ports", "u")
        self.bad(module("use n u low low") + module("in a a", "n"), "twice", "a")
        self.bad(module("io 1 a[32] b[32] c[32] d[24];in e[32] f[32]"), "many", "f")

    def test_use_errors(self):
        inner = module("in a;in b[2];io 1 c", "n")
        self.bad(module("use none u"), "module", "none")
        self.bad(module("tank 1 u;use none u no"), "module", "none")
        for terms in ("", "low", "low q", "low q low low"):
            self.bad(module(f"tank 1 q[2];use n u {terms}") + inner, "ports", "u")
        self.bad(module("tank 1 u;use n u no no no") + inner, "name", "no")
        self.bad(module("tank 1 u;use n u low high low") + inner, "bus", "high")
        self.bad(module("tank 1 q[2];tank 1 u;use n u low q low") + inner, "twice", "u")
        self.bad(module("in u q[2];use n u low q low") + inner, "twice", "u")
        self.bad(module("tank 1 q[2];use n u low q low;use n u low q low") + inner, "twice", "u")
        self.bad(module("tank 1 q[2];for k 0 to 1;use n u low q low;use n u low q low;end") + inner, "twice", "u")
        self.bad(module("for k 0-1 to 0;use e u;end") + module("", "e"), "index", "u")
        self.bad(module("for k 999999 to 999999+1;use e u;end") + module("", "e"), "index", "u")
        self.fine(module("for k 999999 to 999999;use e u;end") + module("", "e"))
        self.bad(module("use e u;for k 0-1 to 0;use e u;end") + module("", "e"), "twice", "u")
        self.bad(module("for k 0-1 to 0;use n u q;end") + inner, "ports", "u")
        self.bad(module("for k 0-1 to 0;use p u q;end") + module("in a", "p"), "name", "q")

    def test_use_terms_from_the_left(self):
        inner = module("in a[2];in b;in c", "n")
        self.bad(module("tank 1 q[2] r[3];use n u r q no") + inner, "width", "r")
        self.bad(module("tank 1 q[2] r[3];use n u q r no") + inner, "bus", "r")
        self.bad(module("tank 1 q[2] r[3];use n u q low no") + inner, "name", "no")

    def test_tank_errors(self):
        self.bad(module("in a;tank 1 a"), "twice", "a")
        self.bad(module("io 1 a[2];tank 1 a"), "twice", "a")
        self.bad(module("tank 1 q q"), "twice", "q")
        self.bad(module("tank 1 q;tank 1 q[2]"), "twice", "q")
        self.bad(module("use e q;tank 1 q") + module("", "e"), "twice", "q")
        self.bad(module("for k 0 to 1;tank 1 q;end;tank 1 q"), "twice", "q")
        self.bad(module("for k 0 to 1;tank 1 q;end;for k 5 to 6;tank 1 q;end"), "twice", "q")
        self.bad(module("for k 0 to 0;tank 1 q q;end"), "twice", "q")
        self.bad(module("tank 1 q;for k 0-1 to 0;tank 1 q;end"), "twice", "q")
        self.bad(module("for k 0-1 to 0;tank 1 q;end"), "index", "q")
        self.bad(module("for k 0 to 1;for j 0-k to 0;tank 1 q;end;end"), "index", "q")
        self.bad(module("for k 1 to 0-1+2;for k 0 to 1;tank 1 q;end;end;for k 0-3 to 0;tank 1 r;end"), "index", "r")
        self.bad(module("for k 999998 to 999999+1;tank 1 q;end"), "index", "q")
        self.net(module("for k 999998 to 999999;tank 1 q;end"), (("low", "high"), (("q[999998]", 1), ("q[999999]", 1)), ()))
        self.fine(module("for k 0-5 to 5;tie 1 low high;end"))

    def test_long_names(self):
        # A chain of uses of sixteen letters each, seventeen characters with the dot.
        name = "abcdefghijklmnop"
        deep = "".join(module(f"use m{at + 1} {name}", f"m{at}") for at in range(4))
        for many in (11, 12):
            tank = "q" * many
            text = deep + module(f"tank 1 {tank}", "m4")
            self.net(text, (("low", "high"), ((".".join([name] * 4) + "." + tank, 1),), ()), "m0")
        self.assertEqual(len(".".join([name] * 4) + "." + "q" * 12), 80)
        self.bad(deep + module("tank 1 " + "q" * 13, "m4"), "long", "q" * 13, "m0")
        self.fine(deep + module("tank 1 " + "q" * 9 + "[10]", "m4"), "m0")
        self.bad(deep + module("tank 1 " + "q" * 9 + "[11]", "m4"), "long", "q" * 9, "m0")
        self.fine(deep + module("for k 9 to 9;tank 1 " + "q" * 9 + ";end", "m4"), "m0")
        self.bad(deep + module("for k 9 to 10;tank 1 " + "q" * 9 + ";end", "m4"), "long", "q" * 9, "m0")
        self.bad(deep + module("for k 0-9 to 10;tank 1 " + "q" * 16 + ";end", "m4"), "index", "q" * 16, "m0")
        full = module("tank 1 a[32] b[32] c[32] d[24];use m0 u")
        self.bad(full + deep + module("tank 1 " + "q" * 11, "m4"), "long", "q" * 11)
        self.bad(full + deep + module("tank 1 " + "q" * 10, "m4"), "many", "q" * 10)

    def test_many_tanks(self):
        self.fine(module("io 1 a[32];tank 1 b[32] c[32] d[24]"))
        self.bad(module("io 1 a[32];tank 1 b[32] c[32] d[25]"), "many", "d")
        self.bad(module("tank 1 b[32] c[32] d[32] e[24] f"), "many", "f")
        self.fine(module("for k 0 to 59;tank 1 q r;end"))
        self.bad(module("for k 0 to 60;tank 1 q r;end"), "many", "q")
        self.bad(module("for k 0 to 9;use n u;end") + module("tank 1 q[7] r[6]", "n"), "many", "q")
        self.bad(module("for k 0 to 9;use n u;end") + module("tank 1 q[2] r[11]", "n"), "many", "r")
        self.fine(module("for k 0 to 9;use n u;end") + module("tank 1 q[12]", "n"))

    def test_switch_errors(self):
        self.bad(module("tank 1 q;one 1 no1 no2 no3"), "name", "no1")
        self.bad(module("tank 1 q;one 1 q no2 no3"), "name", "no2")
        self.bad(module("tank 1 q;one 1 q q no3"), "name", "no3")
        self.bad(module("tank 1 q;tie 1 no2 no3"), "name", "no2")
        self.bad(module("tank 1 q;one 1 no q q"), "name", "no")
        self.bad(module("tank 1 q;one 1 q q q"), "ends", "q")
        self.bad(module("tie 1 low low"), "ends", "low")
        self.bad(module("in a[2];one 1 low a[1] a[2-1]"), "ends", "a[1]")
        self.bad(module("use n u") + module("for k 3 to 3;tank 1 q;tie 1 q q[3];end", "n"), "ends", "u.q[3]")
        self.bad(module("tank 1 q;use n u q q") + module("io 1 a b;tie 1 a b", "n"), "ends", "q")
        self.bad(module("in a;use n u a a") + module("io 1 a b;tie 1 a b", "n"), "ends", "a")

    def test_many_switches(self):
        ties = "for i 0 to 3;for k 0 to 49;tie 1 low high;tie 2 high low;end;end"
        self.assertEqual(len(self.fine(module(ties))[2]), 400)
        self.bad(module(ties + ";tie 1 low high"), "many", "")
        self.bad(module(ties + ";tie 1 low low"), "ends", "low")
        self.bad(module(ties + ";tie 1 low no"), "name", "no")
        self.bad(module(ties + ";use n u") + module("one 1 low low high", "n"), "many", "")

    def test_loop_errors(self):
        self.bad(module("for k j to i;end"), "name", "j")
        self.bad(module("for k 0 to i;end"), "name", "i")
        self.bad(module("for k k to 1;end"), "name", "k")
        self.bad(module("in a;for k a to 1;end"), "name", "a")
        self.bad(module("for k 999999+2 to i;end"), "big", "k")
        self.bad(module("for k 0 to 1000*1001;end"), "big", "k")
        self.bad(module("for k 0-1000*1001 to i;end"), "big", "k")
        self.bad(module("for k i to 999999+2;end"), "name", "i")
        self.bad(module("for k i+(999999+2) to 1;end"), "name", "i")
        self.bad(module("for k 999999+2+i to 1;end"), "big", "k")
        self.bad(module("for k 0 to 64;end"), "loop", "k")
        self.bad(module("for k 0-32 to 32;end"), "loop", "k")
        self.fine(module("for k 0 to 63;end;for k 0-32 to 31;end"))
        self.bad(module("for k 0 to 1;for j 0 to 63+k;end;end"), "loop", "j")
        self.bad(module("for k 0 to 1;end;for j 0 to k;end"), "name", "k")
        self.bad(module("for k 0 to 0;use n u;end") + module("tank 1 q[3];tie 1 q[k] low", "n"), "name", "k")
        self.fine(module("for k 999999+1 to 999999+1;end"))

    def test_names_in_terms(self):
        self.bad(module("tie 1 low q;tank 1 q"), "name", "q")
        self.bad(module("use e q;tie 1 low q") + module("", "e"), "name", "q")
        self.bad(module("for k 0 to 1;tie 1 low k;end"), "name", "k")
        self.bad(module("tank 1 q;use n u") + module("tie 1 low q", "n"), "name", "q")
        self.bad(module("for k 0 to 1;tie 1 q low;tank 1 q;end"), "name", "q")
        self.bad(module("for k 0 to 1;for j 1 to k;tie 1 q low;end;tank 1 q;end"), "index", "q")
        self.bad(module("for k 1 to 0;tank 1 q;end;tie 1 low q[0]"), "name", "q")
        self.bad(module("tie 1 low q[i]"), "name", "q")

    def test_forms_of_terms(self):
        one_wire = module("in a", "w")
        bus = module("in a[2]", "b")
        for line in ("tie 1 low {}", "one 1 {} low high", "one 1 low {} low"):
            self.bad(module("in a[2];" + line.format("a")), "bus", "a")
            self.bad(module("tank 1 q;" + line.format("q[0]")), "bus", "q")
            self.bad(module("in q;" + line.format("q[i]")), "bus", "q")
            self.bad(module("for k 0 to 1;tank 1 q;end;" + line.format("q")), "bus", "q")
            self.bad(module("for k 0 to 1;for j 0 to 1;tank 1 q;end;" + line.format("q") + ";end"), "bus", "q")
            self.bad(module("for k 0 to 1;for j 0 to 1;tank 1 q;end;end;" + line.format("q[i]")), "bus", "q")
        self.bad(module("in a[2];use w u a") + one_wire, "bus", "a")
        self.bad(module("tank 1 q;use w u q[0]") + one_wire, "bus", "q")
        self.fine(module("in a[2];use w u a[1]") + one_wire)
        self.bad(module("in a[2];use b u a[1]") + bus, "bus", "a")
        self.bad(module("in a[2];use b u a[i]") + bus, "bus", "a")
        self.bad(module("in a;use b u a") + bus, "bus", "a")
        self.bad(module("use b u low") + bus, "bus", "low")
        self.bad(module("use b u high") + bus, "bus", "high")
        self.bad(module("for k 0 to 1;tank 1 q;end;use b u q") + bus, "bus", "q")
        self.bad(module("for k 0 to 1;tank 1 q;end;use b u q[0]") + bus, "bus", "q")
        self.bad(module("in a[3];use b u a") + bus, "width", "a")
        self.bad(module("in a[1];use b u a") + bus, "width", "a")
        self.fine(module("in a[2];use b u a") + bus)
        self.bad(module("in a;use n u a") + module("in a[1]", "n"), "bus", "a")
        self.bad(module("in a[1];use n u a") + module("in a", "n"), "bus", "a")

    def test_indexes(self):
        self.bad(module("in a[2];tie 1 a[2] low"), "index", "a")
        self.bad(module("in a[2];tie 1 a[0-1] low"), "index", "a")
        self.bad(module("in a[2];tie 1 a[i] low"), "name", "i")
        self.bad(module("in a[2];tie 1 a[999999+2] low"), "big", "a")
        self.fine(module("in a[2];tie 1 a[1] a[0]"))
        loop = "for k 2 to 3;tank 1 q;end;"
        for place in ("1", "4", "0-2", "999999"):
            self.bad(module(loop + f"tie 1 q[{place}] low"), "index", "q")
        self.bad(module(loop + "tie 1 q[999999*2] low"), "big", "q")
        self.bad(module(loop + "tie 1 q[j] low"), "name", "j")
        self.bad(module(loop + "for j 3 to 4;tie 1 q low;end"), "index", "q")
        self.fine(module(loop + "for j 2 to 3;tie 1 q low;for i 9 to 9;tie 1 q low;tie 1 q[j] low;end;end"))
        nested = "for k 0 to 1;for j 0 to k;tank 1 q;end;end;"
        self.bad(module(nested + "for i 0 to 1;tie 1 q[1] low;end"), "index", "q")
        self.fine(module(nested + "for i 0 to 1;for j 0 to i;tie 1 q low;end;end"))
        self.bad(module(nested + "for i 0 to 1;for j i to 1;tie 1 q low;end;end"), "index", "q")

    def test_wrong_arguments(self):
        book = read_book(module(""))
        bad = junk_but(is_name) + ["x", "M", "a" * 17, ("m",), "m[0]", "m.n"]
        self.refuses(flat, {"book": book, "top": "m"}, {"top": bad}, passed=("book",))
        self.fails("NotUsable", ("top", -1), flat, read_book(module("") + module("")), "x")


def answer(function, error, book, top):
    """Return the net that a function tells, or the reason and the name."""
    try:
        return function(book, top)
    except error as told:
        return (told.reason, told.name) if error is NotFlat else told.args


class CompareTest(Case):
    def test_random_books(self):
        source = random.Random(29)
        for _ in range(1500):
            book = some_book(source)
            for top in ("m", "n"):
                self.same(answer(flat, NotFlat, book, top), answer(reference, Bad, book, top))

    def test_random_books_that_fit_better(self):
        source = random.Random(30)
        reasons = {}
        for _ in range(4000):
            book = better_book(source)
            wanted = answer(reference, Bad, book, "m")
            self.same(answer(flat, NotFlat, book, "m"), wanted)
            reason = wanted[0] if len(wanted) == 2 else "net"
            reasons[reason] = reasons.get(reason, 0) + 1
        for reason in ("net", "twice", "name", "bus", "index", "width", "ports", "ends", "many", "module", "loop", "big", "ring"):
            self.assertGreater(reasons.get(reason, 0), 2, (reason, reasons))


def better_book(source):
    """Return a book in which most names, terms and bounds fit."""
    names = ("m", "n", "o") if source.random() < 0.97 else ("m", "n", "n")
    ports = {name: better_ports(source) for name in names}
    book = []
    for at, name in enumerate(names):
        known = [(port[2], port[3], 0) for port in ports[name]]
        later = names[at + 1:] if source.random() < 0.97 else names
        items = better_items(source, known, [], {other: ports[other] for other in later}, [0])
        book.append(("module", name, ports[name], items))
    return tuple(book)


def better_ports(source):
    rows = []
    for name in source.sample(("a", "b", "c", "d"), source.randrange(4)):
        word = source.choice(("in", "io"))
        rows.append((word, 0 if word == "in" else source.randint(1, 4), name, source.choice((0, 0, 1, 2, 32))))
    if source.random() < 0.02:
        rows.append(("in", 0, "a", 0))
    return tuple(rows)


def better_items(source, known, loops, ports, count):
    items = []
    for _ in range(source.randint(1, 5)):
        word = source.choice(("tank", "tank", "switch", "switch", "use", "for"))
        count[0] += 1
        name = f"n{count[0]}" if source.random() < 0.98 else "n1"
        if word == "tank":
            width = 0 if loops else source.choice((0, 0, 2, 3, 32))
            items.append(("tank", source.randint(1, 4), name, width))
            known.append((name, width, len(loops)))
        elif word == "switch":
            kind = source.choice(("one", "zero", "tie"))
            terms = [better_term(source, known, loops, 0) for _ in range(3)]
            items.append(("switch", kind, source.randint(1, 6), None if kind == "tie" else terms[0], terms[1], terms[2]))
        elif word == "use" and ports:
            other = source.choice(list(ports)) if source.random() < 0.97 else "none"
            terms = [better_term(source, known, loops, port[3]) for port in ports.get(other, ())]
            if source.random() < 0.02:
                terms.append(("rail", 0))
            items.append(("use", other, name, tuple(terms)))
        elif word == "for" and len(loops) < 3:
            loop = source.choice(("k", "j", "i"))
            low, high = source.choice(((0, 1), (0, 2), (1, 2), (3, 3), (1, 0)))
            first, last = ("num", low), ("num", high)
            if loops and source.random() < 0.3:
                last = ("plus", ("var", loops[0]), last)
            if source.random() < 0.01:
                last = source.choice((("num", 70), ("times", ("num", 9999), ("num", 9999)), ("var", "z")))
            items.append(("for", loop, first, last, better_items(source, known, loops + [loop], ports, count)))
    return tuple(items)


def better_term(source, known, loops, width):
    """Return a term that mostly fits a port of a width."""
    fitting = [row for row in known if row[1] == width] if width else known
    if source.random() < 0.02:
        fitting = known
    if not fitting or (not width and source.random() < 0.25):
        return ("rail", source.randrange(2))
    name, wide, depth = source.choice(fitting)
    if width or (wide == 0 and depth <= len(loops) and source.random() < 0.8) or source.random() < 0.02:
        return ("wire", name)
    if wide == 0 and depth == 0 and source.random() < 0.9:
        return ("wire", name)
    index = ("var", source.choice(loops)) if loops and source.random() < 0.5 else ("num", source.randrange(3))
    return ("item", name, index)
