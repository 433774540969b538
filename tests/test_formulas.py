"""Points 79 and 80: formulas, what they are worth, their texts."""

import itertools
import random

from everyohm.formulas import formula_worth, is_formula
from everyohm.formulatexts import formula_text, read_formula
from helpers import JUNK, Case
from slowformulas import NAMES, deep_formula, depth_of, first_bad, full_text, slow_is_formula, slow_read, slow_worth, some_formula
from slowpapers import as_lists, changes, one_as_true

A, B, C = ("at", "a"), ("at", "b"), ("at", "c")
NO_FORMULAS = JUNK + (
    ("val",), ("val", 3), ("val", -1), ("val", True), ("val", None), ("val", "0"), ("val", 0, 1), ("at",), ("at", "x"), ("at", ""), ("at", 0), ("at", "a.x"),
    ("at", ("a",)), ("not",), ("not", 0), ("not", A, A), ("and", A), ("and", A, B, C), ("nor", A, B), ("AND", A, B), (["and"], A, B), ("or", A, None),
    ["at", "a"], ("at", ["a"]), ("xor", A, ["at", "b"]), (A, "and", B), (("at", "a"),), ("val", (0,)), ("at", "A"), ("at", "a b"), (None, A), (True, 0),
)
# Sixteen ways to be just too deep.
DEEP = ("not", ("and", A, ("or", ("xor", ("not", ("not", ("and", ("not", B), C))), B), C)))


class FormulasTest(Case):
    def test_is_formula(self):
        for thing in (("val", 0), ("val", 1), ("val", 2), A, ("at", "alu.q[3]"), ("not", A), ("and", A, ("val", 2)), ("or", A, A), ("xor", ("not", A), B)):
            self.gives(True, is_formula, thing=thing)
        for thing in NO_FORMULAS:
            self.gives(False, is_formula, thing=thing)
            self.same(is_formula(("not", thing)), False)
            self.same(is_formula(("or", A, thing)), False)

    def test_depths(self):
        source = random.Random(79)
        for depth in range(1, 12):
            for _ in range(20):
                formula = deep_formula(source, depth)
                self.assertEqual(depth_of(formula), depth)
                self.gives(depth <= 8, is_formula, thing=formula)
        self.assertEqual(depth_of(DEEP), 9)
        self.gives(True, is_formula, thing=DEEP[1])

    def test_one_thing_changed(self):
        source = random.Random(791)
        for _ in range(15):
            formula = some_formula(source, 4)
            for other in changes(formula, (None, True, 0, 2, 3, "a", "x", "and", "not", (), A, [])):
                self.same(is_formula(other), slow_is_formula(other))
            for other in list(as_lists(formula)) + list(one_as_true(formula)):
                self.same(is_formula(other), False)

    def test_tables(self):
        for word, table in (("and", "000012022"), ("or", "012111212"), ("xor", "012102222")):
            for at, (one, other) in enumerate(itertools.product((0, 1, 2), repeat=2)):
                known = (("a", one), ("b", other))
                self.gives(int(table[at]), formula_worth, formula=(word, A, B), known=known)
                self.same(formula_worth((word, ("val", one), ("val", other)), ()), int(table[at]))
        for value, other in ((0, 1), (1, 0), (2, 2)):
            self.gives(other, formula_worth, formula=("not", A), known=(("a", value),))
            self.gives(value, formula_worth, formula=A, known=(("b", 0), ("a", value), ("c", 1)))
            self.gives(value, formula_worth, formula=("val", value), known=())

    def test_worth(self):
        source = random.Random(792)
        for _ in range(300):
            formula = some_formula(source, 8)
            known = tuple((name, source.randrange(3)) for name in source.sample(NAMES, len(NAMES)))
            self.gives(slow_worth(formula, known), formula_worth, formula=formula, known=known)

    def test_names_that_are_not_known(self):
        for formula, known, name in (
            (A, (), "a"), (("and", A, B), (), "a"), (("and", A, B), (("a", 0),), "b"), (("or", B, A), (), "b"), (("or", ("val", 1), A), (("b", 1),), "a"),
            (("xor", ("not", ("and", C, A)), B), (("c", 0),), "a"), (("and", ("val", 0), ("or", ("at", "z.q[1]"), C)), (("z", 1),), "z.q[1]"),
            (("and", ("xor", A, B), ("not", C)), (("c", 0), ("a", 2)), "b"),
        ):
            self.fails("NoSuchName", (name,), formula_worth, formula, known)
        source = random.Random(793)
        for _ in range(200):
            formula = some_formula(source, 6)
            known = tuple((name, source.randrange(3)) for name in source.sample(NAMES, 3))
            names = names_from_left(formula)
            missing = [name for name in names if name not in dict(known)]
            if missing:
                self.fails("NoSuchName", (missing[0],), formula_worth, formula, known)

    def test_wrong_arguments(self):
        known = [
            None, [], [("a", 0)], (("a", 0), ("a", 0)), (("a", 0), ("b", 1), ("a", 1)), (("a",),), (("a", 3),), (("a", True),), (["a", 0],), ("a", 0),
            (("x", 0),), (("a", 0, 0),), ((0, 0),), ((("a",), 0),), "a", (("a", None),), (("a", 0), None), (("A", 0),), 0, True, (("a", -1),), ((),),
        ]
        bad = {"formula": [thing for thing in NO_FORMULAS] + [DEEP], "known": known}
        self.refuses(formula_worth, {"formula": A, "known": (("a", 0),)}, bad)
        self.refuses(formula_text, {"formula": A}, bad)
        self.refuses(read_formula, {"text": "a"}, {"text": [thing for thing in JUNK if not isinstance(thing, str)]})


def names_from_left(formula):
    if formula[0] == "at":
        return [formula[1]]
    return [name for part in formula[1:] if isinstance(part, tuple) for name in names_from_left(part)]


class FormulaTextsTest(Case):
    def test_signs(self):
        for text, formula in (
            ("0", ("val", 0)), ("1", ("val", 1)), ("x", ("val", 2)), ("a", A), ("alu.q[3]", ("at", "alu.q[3]")), ("!a", ("not", A)), ("!!a", ("not", ("not", A))),
            ("a&b", ("and", A, B)), ("a^b", ("xor", A, B)), ("a|b", ("or", A, B)), ("a&b&c", ("and", ("and", A, B), C)), ("a&(b&c)", ("and", A, ("and", B, C))),
            ("a|b&c", ("or", A, ("and", B, C))), ("(a|b)&c", ("and", ("or", A, B), C)), ("a^b&c", ("xor", A, ("and", B, C))), ("a&b^c", ("xor", ("and", A, B), C)),
            ("a|b^c", ("or", A, ("xor", B, C))), ("a^b|c", ("or", ("xor", A, B), C)), ("a^(b|c)", ("xor", A, ("or", B, C))), ("!a&b", ("and", ("not", A), B)),
            ("!(a&b)", ("not", ("and", A, B))), ("a&!b", ("and", A, ("not", B))), ("a^b^c", ("xor", ("xor", A, B), C)), ("a|(b|c)", ("or", A, ("or", B, C))),
            ("!!(a|!b)", ("not", ("not", ("or", A, ("not", B))))), ("(a^b)&(b^c)", ("and", ("xor", A, B), ("xor", B, C))),
        ):
            self.gives(formula, read_formula, text=text)
            self.gives(text, formula_text, formula=formula)

    def test_there_and_back(self):
        source = random.Random(80)
        for _ in range(500):
            formula = some_formula(source, 8)
            text = formula_text(formula)
            self.gives(formula, read_formula, text=text)
            self.same(read_formula(full_text(formula)), formula)
            self.same(slow_read(text), formula)
            self.check_no_needless_bracket(text, formula)

    def check_no_needless_bracket(self, text, formula):
        """Check that without any pair of its brackets the text would be another formula's."""
        opened = []
        for place, sign in enumerate(text):
            if sign == "(":
                opened.append(place)
            elif sign == ")":
                start = opened.pop()
                self.assertNotEqual(slow_read(text[:start] + text[start + 1:place] + text[place + 1:]), formula)

    def test_needless_brackets(self):
        self.gives(A, read_formula, text="((((a))))")
        self.gives(("and", ("and", A, B), ("not", C)), read_formula, text="((a)&(b))&(!(c))")
        self.gives(A, read_formula, text="(" * 1999 + "a" + ")" * 1999)
        self.gives(("or", ("val", 2), A), read_formula, text="(" * 999 + "x" + ")" * 999 + "|" + "(" * 999 + "a" + ")" * 999)

    def test_just_deep_enough(self):
        source = random.Random(801)
        for depth in (8, 9, 10):
            for _ in range(30):
                formula = deep_formula(source, depth)
                text = full_text(formula)
                if depth == 8:
                    self.same(read_formula(text), formula)
                else:
                    self.fails("InvalidText", (0, len(text)), read_formula, text)
        self.gives(True, is_formula, thing=read_formula("&".join("abcdefgh")))
        self.fails("InvalidText", (0, 17), read_formula, "&".join("abcdefghi"))
        self.fails("InvalidText", (0, 9), read_formula, "!" * 8 + "a")
        self.fails("InvalidText", (0, 4000), read_formula, "!" * 3999 + "a")
        self.fails("InvalidText", (0, 3999), read_formula, "|".join("a" * 2000))
        # What cannot stand there comes ahead of what is only too deep.
        self.fails("InvalidText", (0, 10), read_formula, "!" * 9 + "a)")
        self.fails("InvalidText", (0, 11), read_formula, "!" * 9 + "a&")
        self.fails("InvalidText", (0, 18), read_formula, "&".join("abcdefghi") + "& b")

    def test_first_bad_characters(self):
        for text, place in (
            ("", 0), ("(", 1), (")", 0), ("()", 1), ("a)", 1), ("(a", 2), ("(a))", 3), ("a&", 2), ("&a", 0), ("a&&b", 2), ("a!", 1), ("a!b", 1), ("a(b)", 1), ("(a)b", 3),
            ("(a)!b", 3), ("a b", 1), (" a", 0), ("a ", 1), ("A", 0), ("aB", 1), ("01", 0), ("x1", -1), ("xx", -1), ("a.x", 0), ("a&a.x", 2), ("a..b", 0), ("a[1", 0),
            ("a[01]", 0), ("[1]", 0), ("_a", 0), ("2", 0), ("a|2", 2), ("a\n", 1), ("\n", 0), ("a-b", 1), ("!", 1), ("!)", 1), ("(a|b", 4), ("a|(b", 4), ("a^^", 2),
            ("!(", 2), ("a&b)", 3), ("((a)", 4), ("1a", 0), ("0x", 0), ("a.b.", 0), ("a@", 1), ("a&" + "b" * 17, 2), ("b" * 16, -1), ("(1)(0)", 3),
        ):
            self.assertEqual(first_bad(text), place)
            if place >= 0:
                self.fails("InvalidText", (0, place), read_formula, text)
                self.fails("InvalidText", (0, place), read_formula, text=text)
            else:
                self.same(read_formula(text), ("at", text))

    def test_all_short_texts(self):
        for many in range(6):
            for signs in itertools.product("a0!(&|)", repeat=many):
                text = "".join(signs)
                place = first_bad(text)
                if place >= 0:
                    self.fails("InvalidText", (0, place), read_formula, text)
                else:
                    self.same(read_formula(text), slow_read(text))

    def test_some_texts(self):
        source = random.Random(802)
        read = 0
        for _ in range(3000):
            text = list(formula_text(some_formula(source, 5)))
            for _ in range(source.randint(0, 2)):
                at = source.randint(0, len(text))
                text[at:at + source.randrange(2)] = source.choice(("a", "x", "1", "!", "(", ")", "&", "|", "^", " ", "[", "]", ".", "", "B"))
            text = "".join(text)
            place = first_bad(text)
            if place >= 0:
                self.fails("InvalidText", (0, place), read_formula, text)
            elif depth_of(slow_read(text)) <= 8:
                read += 1
                self.same(read_formula(text), slow_read(text))
        self.assertGreater(read, 500)
