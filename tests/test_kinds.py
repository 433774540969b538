"""Points 2 to 4 and 13: what integers, values, quotients, names and lots are."""

from everyohm import kinds
from helpers import JUNK, Case

NAMES = ("a", "z", "low", "high", "module", "in", "xx", "x1", "x_", "a0_9", "a__", "q" * 16, "y")
NO_NAMES = ("", "x", "A", "_a", "1a", "a b", " a", "a ", "aB", "a-", "a.b", "q" * 17, "a\n", "\na", "0", "a[0]")
FLAT_NAMES = NAMES + (
    "alu", "m[0][12].q", "a.b.c", "alu.q[3]", "a[0]", "a[999999]", "a[10]", "a.b[0].c[1][2]",
    "q" * 16 + "." + "r" * 16, ".".join(["a"] * 40) + "b", "a" * 16 + "[123456]" * 8,
)
NO_FLAT_NAMES = (
    "", "x", "x.a", "a.x", "a.x.b", "a.x[0]", "x[1]", "[1]", "a[]", "a[01]", "a[00]", "a.", "a..b",
    "a[1]b", "a[1].x", "a[1000000]", "a[-1]", "a[1", "a]1[", "a1]", "a[b]", "a[ 1]", "a .b", ".a",
    "a[[1]]", "a.1", "a._b", "a.B", "a\n", "a(1]", "a-1]", "a 1]", "a[1](2]", "a[1]\n", "a[1\n]", "q" * 17, "a." + "q" * 17,
    ".".join(["a"] * 40) + "bc", "a" * 16 + "[123456]" * 8 + "b", "a[1][", "a.b.", "a[+1]", "a[1]]",
)
BIG = 10 ** 399


class KindsTest(Case):
    def check(self, function, fitting):
        """Check that of junk, of what fits and near misses just fitting is taken."""
        for thing in fitting:
            with self.subTest(function=function.__name__, thing=thing):
                self.gives(True, function, thing=thing)

    def misses(self, function, things):
        for thing in things:
            with self.subTest(function=function.__name__, thing=thing):
                self.gives(False, function, thing=thing)

    def test_examples(self):
        self.same(
            (kinds.is_quotient((2, 4)), kinds.is_quotient((-1, 2)), kinds.is_quotient((0, 1))),
            (False, True, True),
        )
        self.same(
            (kinds.is_flat_name("alu.q[3]"), kinds.is_flat_name("alu.x")), (True, False)
        )
        self.same((kinds.is_lot((0, 2)), kinds.is_lot((2, 2))), (True, False))

    def test_integers(self):
        self.check(kinds.is_integer, (0, 1, -1, 2, BIG, -BIG))
        self.misses(kinds.is_integer, (True, False, None, "", "1", (), (1,), [1], []))

    def test_numbers(self):
        self.check(kinds.is_number, (0, 1, 2, BIG))
        self.misses(kinds.is_number, (-1, -BIG, True, False, None, "1", (1,), [0]))

    def test_values(self):
        self.check(kinds.is_value, (0, 1, 2))
        self.misses(kinds.is_value, (-1, 3, BIG, True, False, None, "0", "x", (0,), [0], ()))

    def test_known(self):
        self.check(kinds.is_known, (0, 1))
        self.misses(kinds.is_known, (-1, 2, 3, True, False, None, "0", (0,), [1], ()))

    def test_quotients(self):
        self.check(kinds.is_quotient, ((0, 1), (1, 1), (-1, 1), (1, 2), (-3, 2), (BIG, BIG + 1), (7, 1)))
        self.misses(kinds.is_quotient, (
            (0, 2), (2, 4), (-2, 4), (1, 0), (0, 0), (1, -1), (0, -1), (1, -2), (True, 1), (1, True),
            (0, True), (False, 1), [1, 2], (1,), (1, 2, 3), (), ("1", 2), (1, None), ((1, 2), 1), 1, "1/2",
            (BIG, BIG), ([1], 2),
        ))

    def test_names(self):
        self.check(kinds.is_name, NAMES)
        self.misses(kinds.is_name, NO_NAMES + (None, 0, True, (), ("a",), ["a"]))

    def test_flat_names(self):
        self.assertEqual(len(".".join(["a"] * 40) + "b"), 80)
        self.assertEqual(len("a" * 16 + "[123456]" * 8), 80)
        self.check(kinds.is_flat_name, FLAT_NAMES)
        self.misses(kinds.is_flat_name, NO_FLAT_NAMES + (None, 0, True, (), ("a",), ["a"]))

    def test_lots(self):
        self.check(kinds.is_lot, ((), (0,), (0, 1), (0, 2, 3), (5, BIG), tuple(range(300))))
        self.misses(kinds.is_lot, (
            (2, 2), (1, 0), (0, 2, 1), (-1,), (-1, 0), (True,), (0, True), (False, 1), ("0",), [],
            [0, 1], ((0,),), (0, None), None, 0, "", ((),),
        ))

    def test_bools_for_all_junk(self):
        for name in (
            "is_integer", "is_number", "is_value", "is_known", "is_quotient", "is_name",
            "is_flat_name", "is_lot",
        ):
            for thing in JUNK:
                self.assertIn(getattr(kinds, name)(thing), (True, False))
                self.assertIsInstance(getattr(kinds, name)(thing), bool)

    def test_deep_and_long_things(self):
        deep = ()
        for _ in range(29):
            deep = (deep,)
        for thing in (deep, tuple(range(5000)), "a" * 4000, ("a",) * 5000, [deep] * 100):
            for name in ("is_integer", "is_quotient", "is_name", "is_flat_name"):
                self.same(getattr(kinds, name)(thing), False)
        self.same(kinds.is_lot(tuple(range(5000))), True)
        self.same(kinds.is_lot(deep), False)
