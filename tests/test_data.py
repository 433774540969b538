"""Points 17 and 18: the texts of data."""

import itertools
import random

from everyohm.datareadings import read_data
from everyohm.datatexts import data_text
from helpers import JUNK, Case, is_text, junk_but, shape

ATOMS = (0, 1, 2, -1, -12, 10 ** 20, None, True, False, "", "a b", "none", "(", ")", ",", "1", "'", "\\", "(1,)")


def nested(many):
    """Return () within so many tuples, many + 1 deep."""
    thing = ()
    for _ in range(many):
        thing = (thing,)
    return thing


def is_data(thing, depth=8):
    if isinstance(thing, tuple):
        return depth > 0 and all(is_data(part, depth - 1) for part in thing)
    if isinstance(thing, str):
        return not set('"\n') & set(thing)
    return thing is None or isinstance(thing, int)


def some_data(source, depth):
    """Return data made at random, at most so many tuples deep."""
    if depth == 0 or source.random() < 0.5:
        return source.choice(ATOMS)
    return tuple(some_data(source, depth - 1) for _ in range(source.randrange(4)))


class DataTest(Case):
    def test_examples(self):
        self.same(
            data_text((0, -12, "a b", None, True, (), (False,))), '(0,-12,"a b",none,yes,(),(no,))'
        )
        self.same(read_data('(1,("x",),yes)'), (1, ("x",), True))
        self.fails("InvalidText", (0, 0), read_data, "(1)")

    def test_texts(self):
        cases = (
            (0, "0"), (-5, "-5"), (1, "1"), (True, "yes"), (False, "no"), (None, "none"), ("", '""'),
            ("yes", '"yes"'), ((), "()"), ((0,), "(0,)"), ((0, 1), "(0,1)"), (((),), "((),)"),
            (((), ()), "((),())"), (("a,b",), '("a,b",)'), ((True, 1, "1"), '(yes,1,"1")'),
            (((1,), ((2,), 3)), "((1,),((2,),3))"), ("(", '"("'), (("a", None, "b"), '("a",none,"b")'),
        )
        for thing, text in cases:
            self.gives(text, data_text, thing=thing)
            self.gives(thing, read_data, text=text)

    def test_depth(self):
        self.gives("(" * 8 + ")" + ",)" * 7, data_text, thing=nested(7))
        self.gives(nested(7), read_data, text=data_text(nested(7)))
        deeper = "(" * 9 + ")" + ",)" * 8
        self.fails("InvalidText", (0, 0), read_data, deeper)
        self.fails("InvalidText", (0, 0), read_data, "(" * 4000)
        self.fails("NotUsable", ("thing", -1), data_text, nested(8))
        self.fails("NotUsable", ("thing", -1), data_text, (1, (nested(6), nested(7))))
        self.fails("NotUsable", ("thing", -1), data_text, nested(29))

    def test_long_integers(self):
        for figures in (60, 400, 4000, 4300, 4301):
            text = "(-1" + "0" * figures + ',"a")'
            thing = read_data(text)
            self.assertTrue(thing == (-(10 ** figures), "a"))
            self.assertTrue(data_text(thing) == text)

    def test_no_data(self):
        bad = junk_but(is_data) + ['"', 'a"b', "a\nb", "\n", [], (1, []), (1, ("a", '"')), ((["a"],),), (("\n",),)]
        self.refuses(data_text, {"thing": 1}, {"thing": bad})

    def test_junk(self):
        for thing in JUNK:
            if is_data(thing):
                self.same(read_data(data_text(thing)), thing)

    def test_bad_texts(self):
        for text in (
            "", " ", "(", ")", ",", "(1)", "(1,2,)", "(,)", "(,1)", "(1,,2)", "(1 ,2)", "( 1,2)", "(1, 2)",
            "1,2", "1 ", " 1", "-0", "01", "--1", "+1", "-", "1.0", "None", "True", "Yes", "non", "nonee",
            '"', '"a', 'a"', '"a"b"', '""""', '"a\nb"', "'a'", "(1", "(1,", "1)", "()()", "())", "(())",
            "((1,),)1", "((,),)", '("a")', '("a""b")', "(yesno,)", "(yes no)", "1\n", "\n", "1(2)", "(1(2,),)",
            "none,", "(1,2", '("a,1)', "(1;2)", "[1,2]", "((),", "(1,(2)", "(1,(2))", "1/2",
        ):
            with self.subTest(text=text):
                self.fails("InvalidText", (0, 0), read_data, text)
                self.fails("InvalidText", (0, 0), read_data, text=text)

    def test_wrong_texts(self):
        self.refuses(read_data, {"text": "1"}, {"text": junk_but(is_text)})

    def test_each_text_that_is_read_is_the_text(self):
        for many in range(7):
            for signs in itertools.product('(),1"', repeat=many):
                text = "".join(signs)
                try:
                    thing = read_data(text)
                except ValueError:
                    continue
                self.same(data_text(thing), text)

    def test_other_things_have_other_texts(self):
        source = random.Random(17)
        texts = {}
        for _ in range(5000):
            thing = some_data(source, 4)
            text = data_text(thing)
            self.same(read_data(text), thing)
            self.assertEqual(texts.setdefault(text, shape(thing)), shape(thing))
