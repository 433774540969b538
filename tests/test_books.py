"""Points 24 and 25: books and their texts."""

import random

from books import some_book
from everyohm.bookkinds import is_book
from everyohm.bookreading import read_book
from everyohm.booktexts import book_text
from helpers import Case, is_text, junk_but

ONE, K = ("num", 1), ("var", "k")
LONG_TEXT = """module two
  in a
  in b[2]
  io 3 s
  tank 1 q
  tank 2 r[32]
  one 2 a low r[k]
  tie 1 q b[2*(k+1)]
  use one_more u a high r[0]
  for k 0 to 3*k
    tank 4 t
    for j k-1 to k
      zero 6 t t low
      use one_more v
    end
  end
end
module one_more
end"""
LONG_BOOK = (
    ("module", "two", (("in", 0, "a", 0), ("in", 0, "b", 2), ("io", 3, "s", 0)), (
        ("tank", 1, "q", 0), ("tank", 2, "r", 32), ("switch", "one", 2, ("wire", "a"), ("rail", 0), ("item", "r", K)),
        ("switch", "tie", 1, None, ("wire", "q"), ("item", "b", ("times", ("num", 2), ("plus", K, ONE)))),
        ("use", "one_more", "u", (("wire", "a"), ("rail", 1), ("item", "r", ("num", 0)))),
        ("for", "k", ("num", 0), ("times", ("num", 3), K), (
            ("tank", 4, "t", 0),
            ("for", "j", ("minus", K, ONE), K, (
                ("switch", "zero", 6, ("wire", "t"), ("wire", "t"), ("rail", 0)), ("use", "one_more", "v", ()),
            )),
        )),
    )),
    ("module", "one_more", (), ()),
)


def loops(many):
    return "module m\n" + "for k 0 to 1\n" * many


class BookReadingTest(Case):
    def test_example(self):
        self.gives(
            (("module", "m", (("in", 0, "a", 0),), (("switch", "one", 2, ("wire", "a"), ("rail", 0), ("rail", 1)),)),),
            read_book, text="module m\n in a\n one 2 a low high\nend",
        )

    def test_books(self):
        self.gives((), read_book, text="")
        self.gives((), read_book, text="\n # module m\n  ")
        self.gives(LONG_BOOK, read_book, text=LONG_TEXT)
        self.gives((("module", "m", (), ()),) * 2, read_book, text="module m\nend\nmodule m\nend")
        joined = "module m\nin a b[2]\nio 1 s t\ntank 2 q r[3] q\nend"
        self.gives((("module", "m", (
            ("in", 0, "a", 0), ("in", 0, "b", 2), ("io", 1, "s", 0), ("io", 1, "t", 0),
        ), (("tank", 2, "q", 0), ("tank", 2, "r", 3), ("tank", 2, "q", 0))),), read_book, text=joined)
        self.same(is_book(read_book(loops(6) + "tank 1 q\n" + "end\n" * 7)), True)

    def test_bad_lines(self):
        for text, line, word in (
            ("end", 0, 0), ("\nin a", 1, 0), ("# x\n\n tank 1 q", 2, 0), ("for k 0 to 1\nend", 0, 0), ("use m u", 0, 0),
            ("one 1 a a b", 0, 0), ("io 1 a", 0, 0), ("module m\nend\nend", 2, 0), ("module m\nend\nin a", 2, 0),
            ("module m\nmodule n\nend\nend", 1, 0), (loops(1) + "module n", 2, 0), (loops(6) + "module n", 7, 0),
            (loops(1) + "in a", 2, 0), (loops(2) + "io 1 a", 3, 0), ("module m\ntank 1 q\nin a", 2, 0),
            ("module m\nin a\ntie 1 a low\n\nio 1 b", 4, 0), ("module m\nuse n u\nin a", 2, 0),
            (loops(1) + "end\nin a", 3, 0), (loops(7), 7, 0), (loops(6) + "end\nfor k 0 to 1\nfor k 0 to 1", 9, 0),
            (loops(1) + "tank 1 q[1]", 2, 0), (loops(1) + "tank 1 q r[3] s", 2, 0), (loops(6) + "tank 1 q\ntank 1 q[1]", 8, 0),
            ("module m\nin", 1, 1), ("module m\n\ntank 1 q[33]\nin a", 2, 4), ("module", 0, 1), ("\n\nfoo", 2, 0),
            (loops(1) + "tank 1 q[33]", 2, 4), (loops(7) + "tank 9", 7, 0), (loops(6) + "for k 0", 7, 3), ("in", 0, 1),
            ("end end", 0, 1), ("module m\nmodule n n", 1, 2), ("module m\nend\ntank 1", 2, 2), ("module m\nend # x\n x", 2, 0),
            ("module m\nfoo\nbar", 1, 0), ("module m\nin low\nend\nend", 1, 1), ("module x", 0, 1), (loops(1) + "in", 2, 1),
        ):
            with self.subTest(text=text):
                self.fails("InvalidText", (line, word), read_book, text)
                self.fails("InvalidText", (line, word), read_book, text=text)

    def test_unended(self):
        for text, line in (
            ("module m", 0), ("\n\nmodule m\n\n", 2), ("module m\nend\nmodule n\nin a", 2), (loops(1), 1), (loops(6), 6),
            (loops(3) + "end\nend\n", 1), (loops(3) + "end\n", 2), (loops(2) + "end\nend\nfor k 0 to 1\n\ntank 1 q", 5),
            (loops(1) + "end", 0), (loops(3) + "end\nfor j 0 to 1\nend\n", 2),
        ):
            with self.subTest(text=text):
                self.fails("Unended", (line,), read_book, text)
                self.fails("Unended", (line,), read_book, text=text)

    def test_a_bad_line_comes_before_unended(self):
        self.fails("InvalidText", (3, 0), read_book, loops(2) + "in a")

    def test_wrong_arguments(self):
        self.refuses(read_book, {"text": ""}, {"text": junk_but(is_text)})

    def test_a_tank_with_a_bus_may_stand_above_and_below_a_for(self):
        text = "module m\ntank 1 q[2]\nfor k 0 to 1\nend\ntank 1 r[2]\nend"
        self.same(is_book(read_book(text)), True)


class BookTextsTest(Case):
    def test_texts(self):
        self.gives("", book_text, book=())
        self.gives("module m\nend", book_text, book=(("module", "m", (), ()),))
        self.gives(LONG_TEXT, book_text, book=LONG_BOOK)

    def test_there_and_back(self):
        source = random.Random(24)
        for _ in range(400):
            book = some_book(source)
            text = book_text(book)
            self.same(read_book(text), book)
            self.same(book_text(read_book(with_noise(source, text))), text)

    def test_what_is_joined_in_one_line(self):
        text = "module m\n in a  b [ 2 ]\n\n io 1 s t#\n tank 2 q r[3]\n for k 0+0 to ((1))\n end\n end"
        wanted = (
            "module m\n  in a\n  in b[2]\n  io 1 s\n  io 1 t\n  tank 2 q\n  tank 2 r[3]\n  for k 0+0 to 1\n  end\nend"
        )
        self.same(book_text(read_book(text)), wanted)


def with_noise(source, text):
    """Return a text of the same book, with more spaces, lines and remarks."""
    lines = []
    for line in text.split("\n"):
        while source.random() < 0.3:
            lines.append(source.choice(("", "   ", "# module m", " #")))
        for sign in "[]()+-*":
            if source.random() < 0.5:
                line = line.replace(sign, f"  {sign} ")
        line = line.replace(" ", source.choice((" ", "  ")))
        lines.append(line + source.choice(("", " ", "# end", " # [")))
    return "\n".join(lines)
