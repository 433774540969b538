"""The words of texts."""

from everyohm.checks import require
from everyohm.kinds import NAME_SIGNS, is_name

RESERVED = ("module", "end", "in", "io", "tank", "one", "zero", "tie", "use", "for", "to", "low", "high")


def is_book_name(thing):
    """Return whether thing is a name that a book may give to something."""
    return is_name(thing) and thing not in RESERVED


def words_of(text):
    """Return a tuple of words for each line of text, all in a tuple."""
    require(isinstance(text, str), "text")
    return tuple(words_of_line(line) for line in text.split("\n"))


def words_of_line(line):
    """Return the words of one line, up to its remark."""
    text, _, _ = line.partition("#")
    words = []
    place = 0
    while place < len(text):
        end = word_end(text, place)
        if text[place] != " ":
            words.append(text[place:end])
        place = end
    return tuple(words)


def word_end(text, start):
    """Return the place behind the run, or the one character, at start."""
    end = start
    while end < len(text) and text[end] in NAME_SIGNS:
        end += 1
    return max(end, start + 1)
