"""Point 22: what a book is, and what is in it."""

import random

from books import some_book
from everyohm.bookkinds import is_book, module_named, ports_of, uses_of
from everyohm.kinds import is_name
from helpers import Case, junk_but

A, LOW, HIGH = ("wire", "a"), ("rail", 0), ("rail", 1)
ONE, K = ("num", 1), ("var", "k")
PORTS = (("in", 0, "a", 0), ("in", 0, "a", 32), ("io", 1, "s", 0), ("io", 4, "s", 1))
ITEMS = (
    ("tank", 1, "q", 0), ("tank", 4, "q", 32), ("tank", 2, "q", 1),
    ("switch", "one", 1, A, LOW, HIGH), ("switch", "zero", 6, LOW, A, A), ("switch", "tie", 3, None, HIGH, A),
    ("switch", "one", 1, ("item", "a", K), ("item", "b", ONE), ("item", "a" * 16, ("plus", K, ONE))),
    ("use", "m", "u", ()), ("use", "m", "m", (A, LOW, ("item", "q", ONE))),
    ("for", "k", ONE, K, ()), ("for", "k", ONE, ONE, (("tank", 1, "q", 0), ("for", "k", K, K, ()))),
)
BAD_PORTS = (
    ("in", 1, "a", 0), ("in", -1, "a", 0), ("in", None, "a", 0), ("in", False, "a", 0), ("in", 0, "a", 33), ("in", 0, "a", -1),
    ("in", 0, "a", True), ("in", 0, "a", False), ("in", 0, "x", 0), ("in", 0, "low", 0), ("in", 0, "A", 0), ("in", 0, 1, 0),
    ("in", 0, "a"), ("in", 0, "a", 0, 0), ["in", 0, "a", 0], ("io", 0, "s", 0), ("io", 5, "s", 0), ("io", True, "s", 0),
    ("io", 1, "s", 33), ("io", 1, "end", 0), ("out", 1, "s", 0), ("tank", 1, "q", 0), (), None, "in", ("io", 1, "s", None),
    ("io", "1", "s", 0), ("in", 0, "a" * 17, 0),
)
BAD_ITEMS = (
    ("tank", 0, "q", 0), ("tank", 5, "q", 0), ("tank", True, "q", 0), ("tank", 1, "x", 0), ("tank", 1, "tank", 0),
    ("tank", 1, "q", 33), ("tank", 1, "q", -1), ("tank", 1, "q", True), ("tank", 1, "q"), ["tank", 1, "q", 0],
    ("tank", 1, "q", 0, 0), ("in", 0, "a", 0), ("io", 1, "s", 0), ("switch", "two", 1, A, LOW, HIGH),
    ("switch", "one", 0, A, LOW, HIGH), ("switch", "one", 7, A, LOW, HIGH), ("switch", "one", True, A, LOW, HIGH),
    ("switch", "one", 1, None, LOW, HIGH), ("switch", "zero", 1, None, LOW, HIGH), ("switch", "tie", 1, A, LOW, HIGH),
    ("switch", "tie", 1, LOW, HIGH), ("switch", "tie", 1, -1, LOW, HIGH), ("switch", "one", 1, A, LOW),
    ("switch", "one", 1, A, None, HIGH), ("switch", "one", 1, A, LOW, None), ("switch", "one", 1, "a", LOW, HIGH),
    ("switch", None, 1, A, LOW, HIGH), ("switch", ("one",), 1, A, LOW, HIGH), ["switch", "one", 1, A, LOW, HIGH],
    ("use", "m", "u"), ("use", "m", "u", [A]), ("use", "m", "u", (A, None)), ("use", "m", "x", ()), ("use", "x", "u", ()),
    ("use", "in", "u", ()), ("use", "m", "u", A), ("use", 1, "u", ()), ["use", "m", "u", ()], ("use", "m", "low", ()),
    ("for", "x", ONE, ONE, ()), ("for", "to", ONE, ONE, ()), ("for", "k", 1, ONE, ()), ("for", "k", ONE, ("num", -1), ()),
    ("for", "k", ONE, ONE, []), ("for", "k", ONE, ONE), ("for", "k", ONE, ONE, (1,)), ["for", "k", ONE, ONE, ()],
    ("for", "k", ONE, ONE, (("tank", 1, "q", 1),)), ("for", "k", ONE, ONE, (("for", "j", ONE, K, (("tank", 1, "q", 2),)),)),
    ("for", "k", ONE, ONE, (("in", 0, "a", 0),)), ("for", "k", ONE, ONE, ((),)), (), None, 1, "tank", ("end",), ("module", "m"),
)
BAD_TERMS = (
    ("rail", 2), ("rail", -1), ("rail", True), ("rail", False), ("rail", "low"), ("rail",), ["rail", 0], ("wire", "x"),
    ("wire", "low"), ("wire", 0), ("wire",), ("wire", "a", 1), ("item", "a"), ("item", "a", 1), ("item", "x", ONE),
    ("item", "in", ONE), ("item", "a", ("num", 1000000)), ("item", "a", ONE, ONE), "a", None, 0, (), ("rail", 0, 0),
)


def book_with(item):
    return (("module", "m", (), (item,)),)


def loops(many, inner=()):
    """Return an item: so many for inside one another, around the inner items."""
    items = inner
    for _ in range(many):
        items = (("for", "k", ONE, ONE, items),)
    return items[0]


class BookKindsTest(Case):
    def test_books(self):
        self.gives(True, is_book, thing=())
        self.gives(True, is_book, thing=(("module", "m", (), ()),))
        self.gives(True, is_book, thing=(("module", "m", PORTS, ITEMS), ("module", "m", (), ITEMS)))
        for port in PORTS:
            self.gives(True, is_book, thing=(("module", "m", (port,), ()),))
        for item in ITEMS:
            self.gives(True, is_book, thing=book_with(item))

    def test_no_books(self):
        for thing in (
            None, True, 0, "", [], [()], (()), (1,), ("module",), ("module", "m", (), ()), (("module", "m", ()),),
            (("module", "m", (), (), ()),), (("module", "x", (), ()),), (("module", "module", (), ()),),
            (("modul", "m", (), ()),), (["module", "m", (), ()],), [("module", "m", (), ())], (("module", "m", [], ()),),
            (("module", "m", (), []),), (("module", 1, (), ()),), (("module", "m", None, ()),), (("module", "m", (), None),),
            (("module", "m", (), ()), None), (("module", "a" * 17, (), ()),), ((), ("module", "m", (), ())),
        ):
            if thing != ():
                self.gives(False, is_book, thing=thing)
        for thing in junk_but(lambda thing: thing == ()):
            self.gives(False, is_book, thing=thing)

    def test_bad_parts(self):
        for port in BAD_PORTS:
            for ports in ((port,), PORTS + (port,), (port,) + PORTS):
                with self.subTest(port=port):
                    self.gives(False, is_book, thing=(("module", "m", ports, ITEMS),))
        for item in BAD_ITEMS:
            for inner in (item, ("for", "k", ONE, ONE, (item,)), loops(6, (item,))):
                with self.subTest(item=item):
                    self.gives(False, is_book, thing=(("module", "n", (), ()),) + book_with(inner))
        for term in BAD_TERMS:
            for item in (
                ("switch", "one", 1, term, A, A), ("switch", "one", 1, A, term, A), ("switch", "zero", 1, A, A, term),
                ("switch", "tie", 1, None, term, A), ("switch", "tie", 1, None, A, term), ("use", "m", "u", (A, term)),
            ):
                with self.subTest(item=item):
                    self.gives(False, is_book, thing=book_with(item))

    def test_loops_inside_one_another(self):
        self.gives(True, is_book, thing=book_with(loops(6)))
        self.gives(True, is_book, thing=book_with(loops(6, (("tank", 1, "q", 0), ("use", "m", "u", ())))))
        self.gives(False, is_book, thing=book_with(loops(7)))
        self.gives(False, is_book, thing=book_with(loops(20)))
        self.gives(True, is_book, thing=(("module", "m", (), tuple(loops(6) for _ in range(9))),))

    def test_widths_in_loops(self):
        for width in (1, 32):
            self.gives(True, is_book, thing=book_with(("tank", 1, "q", width)))
            for depth in (1, 2, 6):
                self.gives(False, is_book, thing=book_with(loops(depth, (("tank", 1, "q", width),))))

    def test_random_books(self):
        source = random.Random(22)
        for _ in range(300):
            self.same(is_book(some_book(source)), True)


BOOK = (
    ("module", "m", PORTS, (
        ("use", "z", "u", ()), ("for", "k", ONE, ONE, (("use", "b", "u", (A,)), ("for", "j", K, ONE, (("use", "a", "v", ()),)))),
        ("use", "z", "w", ()), ("tank", 1, "t", 0), ("use", "aa", "w2", ()),
    )),
    ("module", "n", (), ()),
    ("module", "n", (("in", 0, "late", 0),), (("use", "m", "u", ()),)),
    ("module", "o", (("io", 2, "o", 3),), (("for", "k", ("num", 2), ONE, (("use", "n", "u", ()),)),)),
)


class ModulesTest(Case):
    def test_module_named(self):
        for at, name in ((0, "m"), (1, "n"), (3, "o")):
            self.gives(BOOK[at], module_named, book=BOOK, name=name)

    def test_ports_of(self):
        self.gives((("a", 0), ("a", 32), ("s", 0), ("s", 1)), ports_of, book=BOOK, name="m")
        self.gives((), ports_of, book=BOOK, name="n")
        self.gives((("o", 3),), ports_of, book=BOOK, name="o")

    def test_uses_of(self):
        self.gives(("a", "aa", "b", "z"), uses_of, book=BOOK, name="m")
        self.gives((), uses_of, book=BOOK, name="n")
        self.gives(("n",), uses_of, book=BOOK, name="o")

    def test_errors(self):
        bad = junk_but(is_name) + ["x", "A", "a" * 17, ("m",)]
        for function in (module_named, ports_of, uses_of):
            self.refuses(function, {"book": BOOK, "name": "m"}, {"name": bad}, passed=("book",))
            for name in ("z", "in", "low", "mm", "k"):
                self.fails("NoSuchName", (name,), function, BOOK, name)
                self.fails("NoSuchName", (name,), function, book=BOOK, name=name)
            self.fails("NoSuchName", ("m",), function, (), "m")
