"""Point 94: orders of a desk, and their lines."""

import itertools
import random
import re

from everyohm.desklines import order_line, read_order
from everyohm.kinds import is_flat_name, is_name
from helpers import JUNK, Case
from slowpapers import as_lists, one_as_true, replaced

NAMES = ("a", "q.r[3]", "low", "b_1", "go", "m[0][12].q")
FORMS = {
    "feed": "n", "tank": "nz", "one": "snnn", "zero": "snnn", "tie": "snn", "drop": "n", "cut": "w", "size": "nz", "strength": "ws", "go": "v", "spread": "v",
    "flicker": "v", "tell": "", "why": "n", "net": "", "state": "", "short": "*", "make": "mt", "bench": "t",
}


def slow_order(line):
    """Return the order of a line, or the reason why there is none."""
    word, _, rest = line.partition(" ")
    if word not in FORMS:
        return "word"
    form = FORMS[word]
    if form == "*":
        words = line.split(" ")[1:]
        return (word, tuple(words)) if all(is_flat_name(name) for name in words) else "part"
    words = line.split(" ", len(form)) if form.endswith("t") else line.split(" ")
    if len(words) != 1 + len(form):
        return "many"
    parts = []
    for sign, text in zip(form, words[1:]):
        pattern = {"n": ".*", "m": ".*", "z": "[1-4]", "s": "[1-6]", "w": "0|[1-9][0-9]{0,5}", "v": "-|[01x]+", "t": "[^\n]*"}[sign]
        if not re.fullmatch(pattern, text, re.DOTALL if sign in "nm" else 0):
            return "part"
        if (sign == "n" and not is_flat_name(text)) or (sign == "m" and not is_name(text)):
            return "part"
        values = lambda: tuple("01x".index(one) for one in text if one != "-")
        parts.append(values() if sign == "v" else int(text) if sign in "zsw" else text.replace("|", "\n") if sign == "t" else text)
    return (word,) + tuple(parts)


def some_order(source):
    word = source.choice(list(FORMS))
    if word == "short":
        return (word, tuple(source.choice(NAMES) for _ in range(source.randrange(4))))
    makers = {
        "n": lambda: source.choice(NAMES), "m": lambda: source.choice(("top", "end", "m1")), "z": lambda: source.randint(1, 4), "s": lambda: source.randint(1, 6),
        "w": lambda: source.choice((0, 7, 10, 999999)), "v": lambda: tuple(source.randrange(3) for _ in range(source.randrange(5))),
        "t": lambda: source.choice(("", " ", "\n", "module m\nend", "  two  spaces \n\n", "bench b\n go\nend", "x = 1")),
    }
    return (word,) + tuple(makers[sign]() for sign in FORMS[word])


class DeskLinesTest(Case):
    def test_examples(self):
        self.gives(("go", (0, 1, 2)), read_order, text="go 01x")
        self.gives("bench bench b|end", order_line, order=("bench", "bench b\nend"))

    def test_each_order(self):
        for order, line in (
            (("feed", "a.b[0]"), "feed a.b[0]"), (("tank", "q", 4), "tank q 4"), (("one", 6, "a", "low", "q"), "one 6 a low q"), (("zero", 1, "a", "b", "b"), "zero 1 a b b"),
            (("tie", 2, "high", "q"), "tie 2 high q"), (("drop", "q"), "drop q"), (("cut", 0), "cut 0"), (("cut", 999999), "cut 999999"), (("size", "q", 1), "size q 1"),
            (("strength", 12, 3), "strength 12 3"), (("go", ()), "go -"), (("go", (2,)), "go x"), (("spread", (0, 1, 2, 1)), "spread 01x1"), (("flicker", (0, 1)), "flicker 01"),
            (("tell",), "tell"), (("why", "low"), "why low"), (("net",), "net"), (("state",), "state"), (("short", ()), "short"), (("short", ("q",)), "short q"),
            (("short", ("q", "r", "q")), "short q r q"), (("make", "m", ""), "make m "), (("make", "m", " a  b\n"), "make m  a  b|"), (("bench", ""), "bench "),
            (("bench", "\n\n"), "bench ||"), (("bench", " "), "bench  "), (("make", "end", "module end\nend"), "make end module end|end"),
        ):
            self.gives(line, order_line, order=order)
            self.gives(order, read_order, text=line)
            self.same(slow_order(line), order)

    def test_there_and_back(self):
        source = random.Random(94)
        for _ in range(500):
            order = some_order(source)
            line = order_line(order)
            self.gives(order, read_order, text=line)
            self.same(slow_order(line), order)

    def test_reasons(self):
        for reason, lines in (
            ("word", ("", " ", "  go 01", " tell", "Go 01", "goo 01", "g", "one|1", "go\n01", "tell\n", "how q", "go|", "01", "module m")),
            ("many", (
                "go", "go 01 1", "go 01 ", "go  01", "tell ", "tell q", "net ", "state  ", "feed", "feed a b", "feed a ", "tank q", "tank q 1 1", "tank", "one 1 a b", "one 1 a b c d",
                "zero", "tie 1 a", "tie 1 a b c", "drop", "drop a b", "cut", "cut 1 2", "size q", "size q 1 ", "strength 1", "why", "why q r", "make", "make m", "bench", "spread", "flicker 01 01",
                # Too many words count ahead of a bad one.
                "tank Q 9 9", "go 2 2", "feed Q Q", "cut 05 5", "make M", "one 7 A", "tell 1")),
            ("part", (
                "go ", "go 2", "go 01-", "go x1y", "go --", "spread ", "flicker 0|1", "feed ", "feed A", "feed x", "feed a..b", "feed a|", "tank q 0", "tank q 5", "tank q 01", "tank q ", "tank q -1",
                "tank q x", "tank  1", "tank Q 1", "one 0 a b c", "one 7 a b c", "one 05 a b c", "one a 1 b c", "one 1 a b C", "one 1  b c", "zero 1 A b c", "tie 7 a b", "tie 1 a b.", "drop x", "cut 05",
                "cut 1000000", "cut -1", "cut x", "cut ", "cut 1.0", "size q 5", "size 1 q", "strength 05 1", "strength 1 7", "strength 1000000 1", "strength 1 01", "why x", "why ", "short ", "short q ",
                "short  q", "short q  r", "short q x", "short Q", "make M text", "make  text", "make x text", "make m.n ", "make m[0] a", "bench a\nb", "make m a\nb", "go 01\n", "feed a\n")),
        ):
            for line in lines:
                self.same(slow_order(line), reason)
                self.fails("InvalidLine", (reason,), read_order, line)
                self.fails("InvalidLine", (reason,), read_order, text=line)

    def test_changed_lines(self):
        source = random.Random(941)
        seen = {}
        for _ in range(3000):
            line = list(order_line(some_order(source)))
            for _ in range(source.randint(1, 2)):
                at = source.randint(0, len(line))
                line[at:at + source.randrange(2)] = source.choice((" ", "", "0", "5", "a", "x", "|", "A", "-", "\n", "tell", " 1"))
            line = "".join(line)
            wanted = slow_order(line)
            word = wanted if isinstance(wanted, str) else "read"
            seen[word] = seen.get(word, 0) + 1
            if isinstance(wanted, str):
                self.fails("InvalidLine", (wanted,), read_order, line)
            else:
                self.same(read_order(line), wanted)
                self.same(order_line(wanted), line)
        self.assertGreater(min(seen.values()), 200)

    def test_what_is_no_order(self):
        odd = JUNK + (
            ("go",), ("go", (3,)), ("go", [0]), ("go", "01"), ("go", (0,), 1), ("tell", 1), ["tell"], ("feed",), ("feed", "x"), ("feed", "a", "b"), ("feed", None), ("tank", "q", 0), ("tank", "q", 5),
            ("tank", "q", True), ("tank", "q", "1"), ("tank", 1, "q"), ("one", 0, "a", "b", "c"), ("one", 7, "a", "b", "c"), ("one", 1, None, "b", "c"), ("one", 1, "a", "b"), ("tie", 1, "a"),
            ("tie", 1, None, "a", "b"), ("cut", -1), ("cut", 1000000), ("cut", True), ("cut", "1"), ("strength", 1, 7), ("strength", True, 1), ("size", "q", 5), ("short",), ("short", "q"), ("short", ["q"]),
            ("short", ("q", "x")), ("short", ("q", 1)), ("short", ("q",), ()), ("make", "m"), ("make", "m.n", ""), ("make", "m", "a|b"), ("make", "m", None), ("make", None, ""), ("bench", "|"),
            ("bench", 1), ("bench", ("a",)), ("bench",), ("how",), ("", 1), (("go",), (0,)), (["go"], (0,)), (None,), ("flicker", (True,)), ("spread", ((0,),)), ("why", ("q",)), ("net", ()),
        )
        self.refuses(order_line, {"order": ("tell",)}, {"order": odd})
        for order in (("go", (0, 1, 1)), ("tank", "q", 1), ("one", 1, "a", "b", "c"), ("short", ("q", "r")), ("make", "m", "a"), ("strength", 1, 1), ("tell",)):
            for thing in list(as_lists(order)) + list(one_as_true(order)):
                self.fails("NotUsable", ("order", -1), order_line, thing)
            for at, part in itertools.product(range(1, len(order)), (None, True, -1, 10 ** 7, "A|", [], ((),), (3,), "|")):
                self.fails("NotUsable", ("order", -1), order_line, replaced(order, at, part))

    def test_wrong_arguments(self):
        self.refuses(read_order, {"text": "tell"}, {"text": [thing for thing in JUNK if not isinstance(thing, str)]})
