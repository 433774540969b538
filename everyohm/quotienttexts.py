"""The texts of quotients."""

from everyohm.checks import require
from everyohm.errors import InvalidText
from everyohm.integertexts import integer_text, read_integer
from everyohm.kinds import is_quotient


def quotient_text(quotient):
    """Return top/bottom, or the top alone if the bottom is 1."""
    require(is_quotient(quotient), "quotient")
    top, bottom = quotient
    if bottom == 1:
        return integer_text(top)
    return integer_text(top) + "/" + integer_text(bottom)


def read_quotient(text):
    """Return the quotient whose text is text."""
    require(isinstance(text, str), "text")
    top_text, slash, bottom_text = text.partition("/")
    top = read_integer(top_text)
    bottom = read_integer(bottom_text) if slash else 1
    quotient = (top, bottom)
    # 3/1 stands for a quotient, but is not its text.
    if not is_quotient(quotient) or (slash and bottom == 1):
        raise InvalidText(0, 0)
    return quotient
