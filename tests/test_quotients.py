"""Points 15, 16 and 18: quotients and their texts."""

import itertools
from fractions import Fraction

from everyohm.kinds import is_integer, is_quotient
from everyohm.quotients import (
    greatest_of, is_less, least_of, minus, over, plus, power, quotient_of, times, total, volt_reads,
)
from everyohm.quotienttexts import quotient_text, read_quotient
from everyohm.values import flipped
from helpers import Case, is_text, junk_but

BIG = 10 ** 120
SOME = (
    (0, 1), (1, 1), (-1, 1), (1, 2), (-1, 2), (1, 3), (2, 3), (1, 4), (3, 4), (-3, 4), (5, 7),
    (7, 1), (-9, 1), (BIG, 1), (1, BIG), (BIG - 1, BIG), (1 - BIG, BIG + 1), (26, 100 - 1), (74, 99),
)
TWO_PLACES = {
    "plus": (plus, lambda a, b: a + b),
    "minus": (minus, lambda a, b: a - b),
    "times": (times, lambda a, b: a * b),
    "over": (over, lambda a, b: a / b),
}


def pair_of(fraction):
    return (fraction.numerator, fraction.denominator)


def are_quotients(thing):
    return isinstance(thing, tuple) and all(is_quotient(part) for part in thing)


class QuotientsTest(Case):
    def test_examples(self):
        self.same(
            (quotient_of(6, -4), plus((1, 2), (1, 3)), minus((1, 2), (1, 2)), over((1, 2), (-3, 4))),
            ((-3, 2), (5, 6), (0, 1), (-2, 3)),
        )
        self.same(
            (total(((1, 2), (1, 3), (1, 6))), total(()), least_of(((1, 2), (1, 3)))),
            ((1, 1), (0, 1), (1, 3)),
        )
        self.same(
            (volt_reads((1, 4)), volt_reads((1, 2)), volt_reads((3, 4)), power(-2, 3), power(0, 0)),
            (0, 2, 1, -8, 1),
        )
        self.fails("NotUsable", ("other", -1), over, (1, 2), (0, 1))

    def test_quotient_of(self):
        for top, bottom in itertools.product((*range(-12, 13), BIG, -BIG), (*range(-12, 13), BIG, 6 * BIG)):
            if bottom != 0:
                self.gives(pair_of(Fraction(top, bottom)), quotient_of, top=top, bottom=bottom)
        bad = junk_but(is_integer)
        self.refuses(quotient_of, {"top": 1, "bottom": 2}, {"top": bad, "bottom": bad + [0]})

    def test_two_quotients(self):
        for one, other in itertools.product(SOME, SOME):
            self.gives(Fraction(*one) < Fraction(*other), is_less, one=one, other=other)
            for name, (function, rule) in TWO_PLACES.items():
                if name == "over" and other == (0, 1):
                    self.fails("NotUsable", ("other", -1), over, one, other)
                else:
                    wanted = pair_of(rule(Fraction(*one), Fraction(*other)))
                    self.gives(wanted, function, one=one, other=other)

    def test_wrong_quotients(self):
        bad = junk_but(is_quotient) + [(2, 4), (0, 2), (1, -2), (True, 2), (1, True), [1, 2]]
        good = {"one": (1, 2), "other": (1, 3)}
        for function in (plus, minus, times, is_less):
            self.refuses(function, good, {"one": bad, "other": bad})
        self.refuses(over, good, {"one": bad, "other": bad + [(0, 1)]})
        self.refuses(volt_reads, {"quotient": (1, 2)}, {"quotient": bad})

    def test_tuples(self):
        for many in range(4):
            for quotients in itertools.product(SOME[:9], repeat=many):
                fractions = [Fraction(*quotient) for quotient in quotients]
                self.same(total(quotients), pair_of(sum(fractions, Fraction(0))))
                if quotients:
                    self.same(least_of(quotients), pair_of(min(fractions)))
                    self.same(greatest_of(quotients), pair_of(max(fractions)))
        self.gives((-1, 1), least_of, quotients=SOME[:6])
        self.gives((1, 1), greatest_of, quotients=SOME[:6])
        self.gives((1, 3), total, quotients=SOME[:6])
        self.gives((0, 1), total, quotients=())

    def test_wrong_tuples(self):
        bad = junk_but(are_quotients) + [((1, 2), (2, 4)), ((1, 2), [1, 3]), [(1, 2)], (1, 2), ((1, 2), 1)]
        self.refuses(total, {"quotients": ()}, {"quotients": bad})
        for function in (least_of, greatest_of):
            self.refuses(function, {"quotients": ((1, 2),)}, {"quotients": bad + [()]})

    def test_volt_reads(self):
        for top, bottom in itertools.product(range(-30, 60), range(1, 25)):
            fraction = Fraction(top, bottom)
            wanted = 0 if fraction <= Fraction(1, 4) else 1 if fraction >= Fraction(3, 4) else 2
            self.same(volt_reads(pair_of(fraction)), wanted)
        self.gives(0, volt_reads, quotient=(-BIG, 1))
        self.gives(1, volt_reads, quotient=(BIG, 1))
        self.gives(2, volt_reads, quotient=(BIG + 1, 4 * BIG + 3))
        self.gives(2, volt_reads, quotient=(3 * BIG - 1, 4 * BIG))

    def test_power(self):
        for base in (-3, -2, -1, 0, 1, 2, 10, 10 ** 9):
            for exponent in (0, 1, 2, 3, 12, 13, 63, 64):
                self.gives(base ** exponent, power, base=base, exponent=exponent)
        bad = junk_but(lambda thing: is_integer(thing) and 0 <= thing <= 64) + [65, 66, -1]
        self.refuses(power, {"base": 2, "exponent": 3}, {"base": junk_but(is_integer), "exponent": bad})

    def test_laws(self):
        for a, b, c in itertools.product(SOME, SOME, SOME[:11]):
            self.same(minus(plus(a, b), b), a)
            if b != (0, 1):
                self.same(over(times(a, b), b), a)
            self.same(times(a, plus(b, c)), plus(times(a, b), times(a, c)))
            self.same([is_less(a, b), is_less(b, a), a == b].count(True), 1)
        for a in SOME:
            self.same(volt_reads(minus((1, 1), a)), flipped(volt_reads(a)))


class QuotientTextsTest(Case):
    def test_examples(self):
        self.same(
            (quotient_text((-1, 2)), quotient_text((3, 1)), read_quotient("3/4"), read_quotient("-7")),
            ("-1/2", "3", (3, 4), (-7, 1)),
        )
        self.fails("InvalidText", (0, 0), read_quotient, "2/4")

    def test_there_and_back(self):
        texts = set()
        for top, bottom in itertools.product(range(-40, 41), range(1, 21)):
            quotient = quotient_of(top, bottom)
            text = quotient_text(quotient)
            self.same(text, str(Fraction(top, bottom)))
            self.gives(quotient, read_quotient, text=text)
            texts.add(text)
        self.assertEqual(len(texts), len({Fraction(t, b) for t in range(-40, 41) for b in range(1, 21)}))
        for quotient in SOME:
            self.gives(str(Fraction(*quotient)), quotient_text, quotient=quotient)
            self.same(read_quotient(quotient_text(quotient)), quotient)

    def test_long_ones(self):
        for figures in (59, 60, 61, 119, 120, 121, 180, 399, 1000, 4000, 4299, 4300, 4301, 4500):
            number = quotient_of(10 ** figures - 1, 1)[0]
            text = "9" * figures
            self.assertTrue(quotient_text((number, 1)) == text)
            self.assertTrue(read_quotient(text) == (number, 1))
            self.assertTrue(quotient_text((-number, number + 1)) == "-" + text + "/1" + "0" * figures)
            self.assertTrue(read_quotient("-" + text + "/1" + "0" * figures) == (-number, number + 1))
            self.assertTrue(read_quotient("1" + "0" * figures) == (number + 1, 1))

    def test_bad_texts(self):
        for text in (
            "", "-", "/", "1/", "/2", "1/1", "0/1", "-0", "0/2", "2/4", "01", "1/02", "1/-2", "--1", "+1",
            " 1", "1 ", "1/ 2", "1 /2", "1/2/3", "1/0", "0/0", "1.5", "a", "1a", "-1/1", "1\n", "-01", "1_0",
            "1//2", "00", "1/2-", "none", "-/2", "7/7",
        ):
            with self.subTest(text=text):
                self.fails("InvalidText", (0, 0), read_quotient, text)
                self.fails("InvalidText", (0, 0), read_quotient, text=text)

    def test_wrong_arguments(self):
        bad = junk_but(is_quotient) + [(2, 4), (1, 0), [1, 2], (True, 1)]
        self.refuses(quotient_text, {"quotient": (1, 2)}, {"quotient": bad})
        self.refuses(read_quotient, {"text": "1/2"}, {"text": junk_but(is_text)})

    def test_each_text_that_is_read_is_the_text(self):
        for many in range(5):
            for signs in itertools.product("-/012", repeat=many):
                text = "".join(signs)
                try:
                    quotient = read_quotient(text)
                except ValueError:
                    continue
                self.same(quotient_text(quotient), text)
