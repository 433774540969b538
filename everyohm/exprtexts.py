"""The texts of expressions."""

from everyohm.checks import require
from everyohm.exprs import is_expr
from everyohm.integertexts import integer_text

SIGNS = {"plus": "+", "minus": "-", "times": "*"}
# How tightly an expression holds together; atoms, not listed, are tightest.
TIGHTNESS = {"plus": 0, "minus": 0, "times": 1}


def expr_text(expr):
    """Return the text of an expression."""
    require(is_expr(expr), "expr")
    return text_of(expr)


def text_of(expr):
    """Return the text of something that is known to be an expression."""
    word = expr[0]
    if word == "num":
        return integer_text(expr[1])
    if word == "var":
        return expr[1]
    left = text_within(expr[1], TIGHTNESS[word])
    # Equal signs are read from the left, so the right side must be tighter.
    right = text_within(expr[2], TIGHTNESS[word] + 1)
    return left + SIGNS[word] + right


def text_within(expr, least):
    """Return the text of a part, in brackets unless it is tight enough."""
    if TIGHTNESS.get(expr[0], 2) < least:
        return "(" + text_of(expr) + ")"
    return text_of(expr)
