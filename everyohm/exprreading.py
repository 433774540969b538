"""Reading expressions."""

from everyohm.checks import require
from everyohm.exprs import GREATEST_NUMBER
from everyohm.kinds import is_number_word
from everyohm.wordreaders import WordReader
from everyohm.words import words_of_line

SUM_WORDS = {"+": "plus", "-": "minus"}


def read_expr(text):
    """Return the expression that has the words of text, one line."""
    require(isinstance(text, str) and "\n" not in text, "text")
    reader = WordReader(words_of_line(text), 0)
    expr = take_expr(reader)
    reader.take_end()
    return expr


def take_expr(reader):
    """Take an expression: parts with + or - between them."""
    expr = take_part(reader)
    while reader.ahead() in SUM_WORDS:
        word = SUM_WORDS[reader.take()]
        expr = (word, expr, take_part(reader))
    return expr


def take_part(reader):
    """Take a part of an expression: atoms with * between them."""
    part = take_atom(reader)
    while reader.ahead() == "*":
        reader.take()
        part = ("times", part, take_atom(reader))
    return part


def take_atom(reader):
    """Take a number word, a book name, or an expression in brackets."""
    word = reader.ahead()
    if word == "(":
        reader.take()
        expr = take_expr(reader)
        reader.take_word(")")
        return expr
    if is_number_word(word):
        return ("num", reader.take_number(0, GREATEST_NUMBER))
    return ("var", reader.take_name())
