"""Reading books."""

from everyohm.bookkinds import MOST_LOOPS
from everyohm.errors import InvalidText, Unended
from everyohm.linereading import line_of
from everyohm.words import words_of


def read_book(text):
    """Return the book that has the lines of text."""
    shelf = Shelf()
    for line, words in enumerate(words_of(text)):
        shelf.put(line_of(words, line), line)
    return shelf.book()


class Block:
    """A module, or a for, that is still open."""

    def __init__(self, head, line):
        self.head = head
        self.line = line
        self.ports = []
        self.rows = []

    def finished(self):
        """Return the module, or the item, that the block is."""
        if self.head[0] == "module":
            return self.head + (tuple(self.ports), tuple(self.rows))
        return self.head + (tuple(self.rows),)


class Shelf:
    """The modules that were read, and the blocks that are open now."""

    def __init__(self):
        self.modules = []
        self.blocks = []

    def put(self, said, line):
        """Take what a line says; a line that cannot stand here is refused."""
        if said == ():
            return
        if not self.can_stand(said):
            raise InvalidText(line, 0)
        if said[0] == "module" or said[0] == "for":
            self.blocks.append(Block(said, line))
        elif said[0] == "end":
            self.close()
        elif said[0] == "ports":
            self.blocks[-1].ports.extend(said[1])
        else:
            self.blocks[-1].rows.extend(said[1])

    def can_stand(self, said):
        """Return whether what a line says can stand here."""
        if said[0] == "module" or self.blocks == []:
            return said[0] == "module" and self.blocks == []
        loops = len(self.blocks) - 1
        if said[0] == "ports":
            return loops == 0 and self.blocks[0].rows == []
        if said[0] == "for":
            return loops < MOST_LOOPS
        return loops == 0 or said[0] == "end" or not has_bus(said[1])

    def close(self):
        """Close the innermost block."""
        block = self.blocks.pop()
        if self.blocks == []:
            self.modules.append(block.finished())
        else:
            self.blocks[-1].rows.append(block.finished())

    def book(self):
        """Return the book, in which each block must be closed."""
        if self.blocks != []:
            raise Unended(self.blocks[-1].line)
        return tuple(self.modules)


def has_bus(items):
    """Return whether one of the items is a tank of width 1 or more."""
    return any(item[0] == "tank" and item[3] > 0 for item in items)
