"""Reading one line of a book."""

from everyohm.bookkinds import GREATEST_SIZE, GREATEST_STRENGTH, WIDEST
from everyohm.checks import require
from everyohm.exprreading import take_expr
from everyohm.wordreaders import WordReader
from everyohm.words import words_of_line


def read_line(text):
    """Return what one line of a book says."""
    require(isinstance(text, str) and "\n" not in text, "text")
    return line_of(words_of_line(text), 0)


def line_of(words, line):
    """Return what the words of a line say; line is told by errors."""
    if words == ():
        return ()
    reader = WordReader(words, line)
    if reader.ahead() not in TAKERS:
        reader.refuse()
    word = reader.take()
    taker = TAKERS[word]
    result = taker(reader, word)
    reader.take_end()
    return result


def take_module(reader, word):
    """Take the rest of a line that opens a module."""
    return (word, reader.take_name())


def take_nothing(_, word):
    """Take the rest of a line of one word."""
    return (word,)


def take_inputs(reader, word):
    """Take the rest of a line of ports that are in."""
    return ("ports", tuple((word, 0, name, width) for name, width in take_wires(reader)))


def take_outputs(reader, word):
    """Take the rest of a line of ports that are io."""
    size = reader.take_number(1, GREATEST_SIZE)
    return ("ports", tuple((word, size, name, width) for name, width in take_wires(reader)))


def take_tanks(reader, word):
    """Take the rest of a line of tanks."""
    size = reader.take_number(1, GREATEST_SIZE)
    return ("items", tuple((word, size, name, width) for name, width in take_wires(reader)))


def take_wires(reader):
    """Take one or more wires, up to the end."""
    wires = [take_wire(reader)]
    while reader.ahead() != "":
        wires.append(take_wire(reader))
    return wires


def take_wire(reader):
    """Take a name, perhaps with a width, as a pair (name, width)."""
    name = reader.take_name()
    if reader.ahead() != "[":
        return (name, 0)
    reader.take()
    width = reader.take_number(1, WIDEST)
    reader.take_word("]")
    return (name, width)


def take_switch(reader, word):
    """Take the rest of a line of a switch; a tie has no gate."""
    strength = reader.take_number(1, GREATEST_STRENGTH)
    gate = None if word == "tie" else take_term(reader)
    left = take_term(reader)
    right = take_term(reader)
    return ("items", (("switch", word, strength, gate, left, right),))


def take_use(reader, word):
    """Take the rest of a line of a use: two names, then any number of terms."""
    module = reader.take_name()
    name = reader.take_name()
    terms = []
    while reader.ahead() != "":
        terms.append(take_term(reader))
    return ("items", ((word, module, name, tuple(terms)),))


def take_term(reader):
    """Take low, high, a name, or a name with an expression in brackets."""
    if reader.ahead() in RAILS:
        return ("rail", RAILS.index(reader.take()))
    name = reader.take_name()
    if reader.ahead() != "[":
        return ("wire", name)
    reader.take()
    expr = take_expr(reader)
    reader.take_word("]")
    return ("item", name, expr)


def take_loop(reader, word):
    """Take the rest of a line that opens a for."""
    name = reader.take_name()
    low = take_expr(reader)
    reader.take_word("to")
    high = take_expr(reader)
    return (word, name, low, high)


RAILS = ("low", "high")
TAKERS = {
    "module": take_module,
    "end": take_nothing,
    "in": take_inputs,
    "io": take_outputs,
    "tank": take_tanks,
    "one": take_switch,
    "zero": take_switch,
    "tie": take_switch,
    "use": take_use,
    "for": take_loop,
}
