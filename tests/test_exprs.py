"""Points 20, 21 and 25: expressions, their worths and their texts."""

import random

from everyohm.exprreading import read_expr
from everyohm.exprs import is_expr, worth
from everyohm.exprtexts import expr_text
from grammar import EXPR, all_begun, first_bad
from helpers import Case, junk_but

K, J, ONE, TWO = ("var", "k"), ("var", "j"), ("num", 1), ("num", 2)
SIGNS = ("plus", "minus", "times")
MOST = ("num", 999999)
MILLION = ("plus", MOST, ONE)


def chain(many, word="plus", left=True):
    """Return an expression that is so many deep."""
    expr = ONE
    for _ in range(many - 1):
        expr = (word, expr, ONE) if left else (word, ONE, expr)
    return expr


def all_exprs(depth):
    """Return all expressions over four atoms at most depth deep, few kinds."""
    atoms = [ONE, K]
    if depth == 1:
        return atoms
    parts = all_exprs(depth - 1)
    return atoms + [(word, e, f) for word in SIGNS for e in parts for f in parts]


def some_expr(source, depth):
    if depth == 1 or source.random() < 0.2:
        return source.choice((ONE, K, J, MOST, ("num", 0), ("var", "a" * 16)))
    return (source.choice(SIGNS), some_expr(source, depth - 1), some_expr(source, depth - 1))


GOOD = (
    ONE, K, ("num", 0), MOST, ("var", "a" * 16), ("plus", ONE, K), ("minus", K, K), ("times", ("plus", ONE, ONE), K),
    chain(8), chain(8, "times", False), ("plus", chain(7), chain(7, "minus", False)), ("var", "num"), ("var", "plus"),
)
BAD = (
    ("num", -1), ("num", 1000000), ("num", True), ("num", "1"), ("num", None), ("num",), ("num", 1, 2), ("num", ()),
    ("var", "x"), ("var", "in"), ("var", "low"), ("var", "to"), ("var", "A"), ("var", 1), ("var",), ("var", "k", "j"),
    ("var", "a" * 17), ("var", ""), ["num", 1], ("plus", ONE), ("plus", ONE, ONE, ONE), ("plus", ONE, 1),
    ("plus", ONE, ["num", 1]), ["plus", ONE, ONE], ("plus", ("num", True), ONE), ("over", ONE, ONE), (), (1, 2, 3),
    ("times", K, ("var", "end")), chain(9), chain(9, "minus", False), ("plus", chain(8), ONE), ("plus", ONE, chain(8)),
    chain(29), "num", None, 1, True, ("Num", 1), (("num",), 1), ("plus", ("times", K, ("num", -1)), ONE), (True, ONE, ONE),
)


class ExprsTest(Case):
    def test_is_expr(self):
        for thing in GOOD:
            self.gives(True, is_expr, thing=thing)
        for thing in BAD:
            with self.subTest(thing=thing):
                self.gives(False, is_expr, thing=thing)

    def test_example(self):
        expr = ("minus", ("times", ("num", 2), ("var", "k")), ("num", 7))
        self.gives(-1, worth, expr=expr, names=(("k", 3),))

    def test_worths(self):
        names = (("k", -4), ("j", 5), ("in", 10 ** 399))
        cases = (
            (ONE, 1), (K, -4), (("plus", K, J), 1), (("minus", K, J), -9), (("times", K, J), -20),
            (("minus", ("minus", ONE, TWO), TWO), -3), (("minus", ONE, ("minus", TWO, TWO)), 1),
            (chain(8), 8), (MOST, 999999), (MILLION, 1000000),
            (("times", MOST, ONE), 999999), (("minus", ("num", 0), MILLION), -1000000),
        )
        for expr, wanted in cases:
            self.gives(wanted, worth, expr=expr, names=names)
        self.gives(7, worth, expr=("num", 7), names=())

    def test_vars_may_stand_for_more(self):
        for number in (10 ** 6, 10 ** 6 + 1, -(10 ** 6) - 1, 10 ** 399):
            self.gives(number, worth, expr=K, names=(("k", number),))
        self.fails("TooMany", (1000000,), worth, ("plus", K, ("num", 0)), (("k", 10 ** 6 + 1),))
        self.gives(0, worth, expr=("minus", K, K), names=(("k", 10 ** 399),))
        self.gives(0, worth, expr=("times", K, ("num", 0)), names=(("k", 10 ** 399),))

    def test_too_many(self):
        names = (("k", 1000),)
        for expr in (
            ("plus", MILLION, ONE), ("minus", ("minus", ("num", 0), MILLION), ONE), ("times", MILLION, TWO),
            ("minus", ("plus", MILLION, ONE), TWO), ("times", ("times", K, K), K), ("times", ("num", 0), ("plus", MOST, TWO)),
        ):
            self.fails("TooMany", (1000000,), worth, expr, names)
            self.fails("TooMany", (1000000,), worth, expr=expr, names=names)
        self.gives(10 ** 6, worth, expr=("times", K, K), names=names)
        self.gives(-(10 ** 6), worth, expr=("times", K, J), names=(("k", 1000), ("j", -1000)))

    def test_whichever_is_met_first(self):
        great = ("plus", MILLION, ONE)
        names = (("k", 1),)
        self.fails("NoSuchName", ("j",), worth, J, names)
        self.fails("NoSuchName", ("j",), worth, ("plus", J, ("var", "i")), names)
        self.fails("NoSuchName", ("i",), worth, ("plus", K, ("var", "i")), names)
        self.fails("TooMany", (1000000,), worth, ("plus", great, J), names)
        self.fails("NoSuchName", ("j",), worth, ("plus", J, great), names)
        self.fails("NoSuchName", ("j",), worth, ("plus", MILLION, J), names)
        self.fails("NoSuchName", ("k",), worth, K, ())
        self.fails("NoSuchName", ("k",), worth, K, (("kk", 1),))

    def test_wrong_arguments(self):
        names = junk_but(lambda thing: thing == () or thing == (("a", 1),)) + [
            (("k", 1), ("k", 1)), (("k", 1), ("j", 2), ("k", 3)), (("k", True),), (("k", "1"),), (("x", 1),), (("K", 1),),
            (["k", 1],), [("k", 1)], (("k",),), (("k", 1, 2),), ("k", 1), (("k", None),), (("a.b", 1),), (("k", 1), None),
        ]
        self.refuses(worth, {"expr": ONE, "names": ()}, {"expr": list(BAD) + junk_but(is_expr), "names": names})

    def test_wrong_arguments_come_before_missing_names(self):
        self.fails("NotUsable", ("names", -1), worth, K, (("j", 1), ("j", 1)))


class ExprTextsTest(Case):
    def test_examples(self):
        expr = ("minus", ONE, ("minus", ("times", K, TWO), ("num", 3)))
        self.gives("1-(k*2-3)", expr_text, expr=expr)
        self.gives(("times", TWO, ("plus", K, ONE)), read_expr, text="2 * (k + 1)")
        self.fails("InvalidText", (0, 2), read_expr, "2*)k")
        self.fails("InvalidText", (0, 2), read_expr, "(k")
        self.fails("InvalidText", (0, 0), read_expr, "")

    def test_texts(self):
        cases = (
            (ONE, "1"), (K, "k"), (("plus", ("plus", ONE, K), TWO), "1+k+2"), (("plus", ONE, ("plus", K, TWO)), "1+(k+2)"),
            (("minus", ("plus", ONE, K), TWO), "1+k-2"), (("minus", ("times", K, J), TWO), "k*j-2"),
            (("plus", K, ("times", J, TWO)), "k+j*2"), (("times", ("times", K, J), TWO), "k*j*2"),
            (("times", K, ("times", J, TWO)), "k*(j*2)"), (("times", ("plus", K, J), TWO), "(k+j)*2"),
            (("times", K, ("minus", J, TWO)), "k*(j-2)"), (("times", ("minus", K, J), ("plus", K, J)), "(k-j)*(k+j)"),
            (("num", 0), "0"), (MOST, "999999"), (("minus", ("minus", K, J), ("minus", K, J)), "k-j-(k-j)"),
            (("plus", ("times", K, J), ("times", K, J)), "k*j+k*j"), (("plus", K, ("minus", K, J)), "k+(k-j)"),
        )
        for expr, text in cases:
            self.gives(text, expr_text, expr=expr)
            self.gives(expr, read_expr, text=text)

    def test_there_and_back(self):
        exprs = all_exprs(3)
        source = random.Random(21)
        exprs.extend(some_expr(source, 8) for _ in range(300))
        texts = set()
        for expr in exprs:
            text = expr_text(expr)
            self.same(read_expr(text), expr)
            spaced = text.replace("+", "  + ").replace("(", " ( ").replace("*", " *")
            self.same(read_expr(f"  {spaced} # + 1"), expr)
            texts.add(text)
        self.assertEqual(len(texts), len(set(exprs)))

    def test_brackets_are_needed(self):
        for expr in all_exprs(3):
            text = expr_text(expr)
            for at in [at for at, sign in enumerate(text) if sign == "("]:
                depth = 0
                for end in range(at, len(text)):
                    depth += (text[end] == "(") - (text[end] == ")")
                    if depth == 0:
                        break
                without = text[:at] + text[at + 1:end] + text[end + 1:]
                self.assertNotEqual(read_expr(without), expr)

    def test_more_texts(self):
        for text, expr in (
            ("((k))", K), ("(1)", ONE), ("((k+1))*2", ("times", ("plus", K, ONE), TWO)), ("k  # j", K),
            ("(((((((k)))))))", K), ("((((((((k))))))))", K), ("1+(2*k)", ("plus", ONE, ("times", TWO, K))),
            ("0", ("num", 0)), ("  k", K), ("num", ("var", "num")),
        ):
            self.gives(expr, read_expr, text=text)

    def test_beyond_the_limits_nothing_is_refused(self):
        self.assertEqual(read_expr("1" + "+1" * 9), chain(10))
        self.same(read_expr("(" * 12 + "k" + ")" * 12), K)

    def test_bad_texts(self):
        for text, word in (
            ("", 0), ("# k", 0), ("+", 0), ("-1", 0), ("*k", 0), (")", 0), ("()", 1), ("k +", 2), ("k + +", 2), ("k k", 1),
            ("k 1", 1), ("1 k", 1), ("2k", 0), ("01", 0), ("1000000", 0), ("999999 9", 1), ("x", 0), ("k+x", 2), ("in", 0),
            ("k + to", 2), ("(k", 2), ("(k))", 3), ("k)", 1), ("((k)", 4), ("(k+", 3), ("k[1]", 1), ("K", 0), ("k/2", 1),
            ("k+(", 3), ("k+()", 3), ("_k", 0), ("a" * 17, 0), ("k ] j", 1), ("(k(", 2), ("1-(k*2-3", 8), ("k * # 2", 2),
            ("low", 0), ("k - high", 2), ("k .", 1), ("0 0", 1), ("00", 0),
        ):
            with self.subTest(text=text):
                self.fails("InvalidText", (0, word), read_expr, text)
                self.fails("InvalidText", (0, word), read_expr, text=text)

    def test_first_bad_word_of_all_short_lines(self):
        words = ("1", "k", "+", "-", "*", "(", ")", "]", "in")
        for row in all_begun(EXPR, words, 5):
            for more in [()] + [(word,) for word in words] + [(word, "k", ")") for word in words]:
                self.check_row(row + more)

    def check_row(self, row):
        bad = first_bad(EXPR, row)
        if bad == -1:
            self.same(is_expr(read_expr(" ".join(row))), True)
        else:
            self.fails("InvalidText", (0, bad), read_expr, " ".join(row))

    def test_wrong_arguments(self):
        self.refuses(expr_text, {"expr": ONE}, {"expr": list(BAD)})
        bad = junk_but(lambda thing: isinstance(thing, str) and "\n" not in thing)
        self.refuses(read_expr, {"text": "1"}, {"text": bad + ["\n", "k\n", "\nk", "k+\n1", "+\n", "# \n"]})

