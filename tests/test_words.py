"""Stage 3 and point 19: the words of texts."""

from everyohm.words import is_book_name, words_of
from helpers import Case, is_text, junk_but

RESERVED = ("module", "end", "in", "io", "tank", "one", "zero", "tie", "use", "for", "to", "low", "high")


class WordsTest(Case):
    def test_example(self):
        self.same(
            words_of("in a b[4]  # two\n\n-3 Qx"),
            (("in", "a", "b", "[", "4", "]"), (), ("-", "3", "Q", "x")),
        )

    def test_words(self):
        cases = (
            ("", ((),)), ("\n", ((), ())), ("a", (("a",),)), ("a\n", (("a",), ())), ("\na", ((), ("a",))),
            ("   ", ((),)), ("#", ((),)), ("# a\nb", ((), ("b",))), ("a#b", (("a",),)), ("a # # b", (("a",),)),
            ("ab_9 9ab _", (("ab_9", "9ab", "_"),)), ("aB", (("a", "B"),)), ("ABc", (("A", "B", "c"),)),
            ("a+b", (("a", "+", "b"),)), ("++", (("+", "+"),)), ("((a))", (("(", "(", "a", ")", ")"),)),
            ("k[2*j]", (("k", "[", "2", "*", "j", "]"),)), ("1.5", (("1", ".", "5"),)),
            ("\"'!", (('"', "'", "!"),)), ("a" * 50, (("a" * 50,),)), ("a \n b", (("a",), ("b",))),
            ("-12", (("-", "12"),)), ("a~\\", (("a", "~", "\\"),)), ("a#\n#b\nc", (("a",), (), ("c",))),
        )
        for text, words in cases:
            self.gives(words, words_of, text=text)

    def test_long_text(self):
        self.same(words_of("a " * 2000), (("a",) * 2000,))
        self.same(words_of("\n" * 3999), ((),) * 4000)

    def test_wrong_texts(self):
        self.refuses(words_of, {"text": "a"}, {"text": junk_but(is_text)})

    def test_book_names(self):
        for name in RESERVED + ("x", "", "A", "a" * 17, "1", None, 1, ("a",)):
            self.same(is_book_name(name), False)
        for name in ("a", "ends", "lows", "tank1", "x1", "a" * 16, "num", "wire", "rail"):
            self.same(is_book_name(name), True)
