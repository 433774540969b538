"""Benches, and reading them from texts."""

from everyohm.checks import require
from everyohm.errors import InvalidText, Unended
from everyohm.formulas import is_formula
from everyohm.formulatexts import read_formula
from everyohm.kinds import is_between, is_flat_name, is_name, is_number_word

MOST_BLOCKS = 6
MOST_TIMES = 64
MOST_NOTES = 6
# How many parts a line of a bench has, by its word.
PARTS = {"set": 3, "go": 1, "want": 3, "let": 3, "any": 2, "times": 3, "loop": 2}


def is_bench(thing):
    """Return whether thing is a bench."""
    if not isinstance(thing, tuple) or len(thing) != 2:
        return False
    return is_name(thing[0]) and are_lines(thing[1], MOST_BLOCKS)


def are_lines(thing, depth):
    """Return whether thing is a tuple of lines, with blocks at most depth deep."""
    return isinstance(thing, tuple) and all(is_line(line, depth) for line in thing)


def is_line(thing, depth):
    """Return whether thing is a line, or a block with blocks at most depth deep."""
    if not isinstance(thing, tuple) or len(thing) == 0 or not isinstance(thing[0], str):
        return False
    word = thing[0]
    if len(thing) != PARTS.get(word, 0):
        return False
    if word == "times":
        return depth > 0 and is_between(thing[1], 0, MOST_TIMES) and are_lines(thing[2], depth - 1)
    if word == "loop":
        return depth > 0 and are_lines(thing[1], depth - 1)
    if word == "any":
        return are_notes(thing[1])
    return word == "go" or (fits_name(word, thing[1]) and is_formula(thing[2]))


def fits_name(word, thing):
    """Return whether thing can be the name in a set, want or let."""
    return is_name(thing) if word == "let" else is_flat_name(thing)


def are_notes(thing):
    """Return whether thing is a tuple of one to six different names."""
    if not isinstance(thing, tuple) or not 1 <= len(thing) <= MOST_NOTES:
        return False
    return all(is_name(name) for name in thing) and len(set(thing)) == len(thing)


def read_bench(text):
    """Return the bench that has the lines of text."""
    require(isinstance(text, str), "text")
    draft = BenchDraft()
    for line, row in enumerate(text.split("\n")):
        words = [word for word in row.split(" ") if word != ""]
        if words != []:
            draft.put(said_by(words), line)
    return draft.bench()


def said_by(words):
    """Return what a line says, or None if it reads like no line; a block as its first parts alone."""
    word = words[0]
    if word in ("set", "want", "let"):
        return said_with_formula(words)
    if word == "any":
        return (word, tuple(words[1:])) if are_notes(tuple(words[1:])) else None
    if len(words) == 1:
        return (word,) if word in ("go", "loop", "end") else None
    if len(words) != 2:
        return None
    if word == "times":
        return (word, int(words[1])) if is_count(words[1]) else None
    return (word, words[1]) if word == "bench" and is_name(words[1]) else None


def said_with_formula(words):
    """Return what a set, want or let says, or None if it reads otherwise."""
    if len(words) != 4 or not fits_name(words[0], words[1]) or words[2] != "=":
        return None
    try:
        return (words[0], words[1], read_formula(words[3]))
    except InvalidText:
        return None


def is_count(word):
    """Return whether a word tells how many times a block is gone through."""
    return is_number_word(word) and int(word) <= MOST_TIMES


class BenchBlock:
    """A block, or the bench itself, that is still open."""

    def __init__(self, head, line):
        self.head = head
        self.line = line
        self.rows = []

    def finished(self):
        """Return the line, or the bench, that the block is."""
        return self.head + (tuple(self.rows),)


class BenchDraft:
    """The blocks of a bench that are open now, the bench first, and the bench when it has ended."""

    def __init__(self):
        self.blocks = []
        self.done = None

    def put(self, said, line):
        """Take what a line says; a line that cannot stand here is refused."""
        if said is None or not self.can_stand(said[0]):
            raise InvalidText(line, 0)
        if said[0] == "bench":
            self.blocks.append(BenchBlock(said[1:], line))
        elif said[0] in ("times", "loop"):
            self.blocks.append(BenchBlock(said, line))
        elif said[0] == "end":
            self.close()
        else:
            self.blocks[-1].rows.append(said)

    def can_stand(self, word):
        """Return whether a line with this first word can stand here."""
        if word == "bench" or self.blocks == []:
            return word == "bench" and self.blocks == [] and self.done is None
        return word not in ("times", "loop") or len(self.blocks) <= MOST_BLOCKS

    def close(self):
        """Close the innermost block."""
        finished = self.blocks.pop().finished()
        if self.blocks == []:
            self.done = finished
        else:
            self.blocks[-1].rows.append(finished)

    def bench(self):
        """Return the bench, which must have begun and ended."""
        if self.blocks != []:
            raise Unended(self.blocks[-1].line)
        if self.done is None:
            raise InvalidText(0, 0)
        return self.done
