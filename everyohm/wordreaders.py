"""A reader that takes the words of one line from the left."""

from everyohm.errors import InvalidText
from everyohm.kinds import is_number_word
from everyohm.words import is_book_name


class WordReader:
    """The words of a line, and the place of the next one."""

    def __init__(self, words, line):
        self.words = words
        self.line = line
        self.place = 0

    def ahead(self):
        """Return the next word, or an empty one behind the last."""
        if self.place < len(self.words):
            return self.words[self.place]
        return ""

    def refuse(self):
        """Raise the error that the next word is bad, or lacks."""
        raise InvalidText(self.line, self.place)

    def take(self):
        """Return the next word and go behind it."""
        word = self.ahead()
        self.place += 1
        return word

    def take_word(self, word):
        """Go behind the next word, which must be this one."""
        if self.ahead() != word:
            self.refuse()
        self.place += 1

    def take_name(self):
        """Return the next word, which must be a book name."""
        if not is_book_name(self.ahead()):
            self.refuse()
        return self.take()

    def take_number(self, least, most):
        """Return the next word as a number, which must be from least to most."""
        word = self.ahead()
        if not is_number_word(word) or not least <= int(word) <= most:
            self.refuse()
        return int(self.take())

    def take_end(self):
        """Refuse the next word if there is one."""
        if self.ahead() != "":
            self.refuse()
