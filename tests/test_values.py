"""Points 14 and 18: values and their texts."""

import itertools

from everyohm.kinds import is_value
from everyohm.values import flipped, is_above, is_above_all, joined, joined_all
from everyohm.valuetexts import read_values, values_text
from helpers import JUNK, Case, is_text, junk_but

VALUES = (0, 1, 2)


def are_values(thing):
    return isinstance(thing, tuple) and all(is_value(value) for value in thing)


def tuples_up_to(most):
    """Return all tuples of values with at most so many values."""
    return [row for many in range(most + 1) for row in itertools.product(VALUES, repeat=many)]


class ValuesTest(Case):
    def test_examples(self):
        self.same(
            (joined(0, 1), joined(1, 1), joined(2, 0), flipped(0), flipped(2)), (2, 1, 2, 1, 2)
        )
        self.same((is_above(2, 0), is_above(0, 2), is_above(1, 0)), (True, False, False))
        self.same(
            (joined_all((0, 1, 1), (0, 0, 2)), is_above_all((2, 1), (0, 1))), ((0, 2, 2), True)
        )
        self.fails("NotUsable", ("others", -1), joined_all, (0, 1), (0,))

    def test_all_pairs(self):
        for one, other in itertools.product(VALUES, VALUES):
            self.gives(one if one == other else 2, joined, one=one, other=other)
            self.gives(one in (other, 2), is_above, one=one, other=other)
        for value, wanted in ((0, 1), (1, 0), (2, 2)):
            self.gives(wanted, flipped, value=value)

    def test_tuples(self):
        self.gives((), joined_all, ones=(), others=())
        self.gives(True, is_above_all, ones=(), others=())
        for ones in tuples_up_to(3):
            for others in itertools.product(VALUES, repeat=len(ones)):
                pairs = list(zip(ones, others))
                self.gives(tuple(joined(*pair) for pair in pairs), joined_all, ones=ones, others=others)
                self.gives(all(is_above(*pair) for pair in pairs), is_above_all, ones=ones, others=others)

    def test_wrong_values(self):
        bad = junk_but(is_value)
        for function in (joined, is_above):
            self.refuses(function, {"one": 1, "other": 2}, {"one": bad, "other": bad})
        self.refuses(flipped, {"value": 1}, {"value": bad})

    def test_wrong_tuples(self):
        bad = junk_but(are_values) + [(0, 1, 3), (0, -1), (0, True), [0, 1], (0, "1"), (0, (1,))]
        lengths = [(), (0,), (0, 1, 2)]
        for function in (joined_all, is_above_all):
            good = {"ones": (0, 1), "others": (1, 1)}
            self.refuses(function, good, {"ones": bad, "others": bad + lengths})

    def test_laws(self):
        for u, v, w in itertools.product(VALUES, repeat=3):
            self.assertEqual(joined(u, v), joined(v, u))
            self.assertTrue(is_above(joined(u, v), u) and is_above(joined(u, v), v))
            if is_above(w, u) and is_above(w, v):
                self.assertTrue(is_above(w, joined(u, v)))
            self.assertEqual(joined(joined(u, v), w), joined(u, joined(v, w)))
            self.assertEqual(flipped(flipped(u)), u)
            self.assertEqual(flipped(joined(u, v)), joined(flipped(u), flipped(v)))


class ValueTextsTest(Case):
    def test_examples(self):
        self.same(
            (values_text((0, 1, 2)), values_text(()), read_values("x1"), read_values("-")),
            ("01x", "-", (2, 1), ()),
        )
        self.fails("InvalidText", (0, 2), read_values, "01-2")

    def test_there_and_back(self):
        texts = {}
        for values in tuples_up_to(5):
            text = values_text(values)
            self.gives(text, values_text, values=values)
            self.gives(values, read_values, text=text)
            self.assertNotIn(text, texts)
            texts[text] = values
        self.same(read_values(values_text((2, 0, 1) * 500)), (2, 0, 1) * 500)

    def test_bad_texts(self):
        cases = (
            ("", 0), ("--", 0), ("-0", 0), ("0-", 1), ("2", 0), ("01 ", 2), (" 01", 0), ("X", 0),
            ("xx2", 2), ("0\n", 1), ("\n", 0), ("01xa-", 3), ("0" * 50 + "q" + "z", 50), ("a", 0),
        )
        for text, place in cases:
            with self.subTest(text=text):
                self.fails("InvalidText", (0, place), read_values, text)
                self.fails("InvalidText", (0, place), read_values, text=text)

    def test_wrong_arguments(self):
        bad = junk_but(are_values) + [(0, 3), (0, True), [0, 1], ("x",)]
        self.refuses(values_text, {"values": (1,)}, {"values": bad})
        self.refuses(read_values, {"text": "1"}, {"text": junk_but(is_text)})

    def test_every_text_of_junk(self):
        for text in JUNK:
            if not is_text(text) or text in ("x", "0", "1", "-"):
                continue
            self.fails("InvalidText", (0, 0), read_values, text)
