"""Desks as texts: the lines that made them."""

from everyohm.checks import require
from everyohm.desks import Desk
from everyohm.errors import InvalidLine


def saved(desk):
    """Return the lines that made a desk."""
    return "\n".join(desk.log())


def restored(text):
    """Return a new desk to which the lines of text were said."""
    require(isinstance(text, str), "text")
    desk = Desk()
    for line in lines_of(text):
        # No other answer begins so: neither names nor values contain a colon.
        if desk.say(line).startswith("no: "):
            raise InvalidLine("no")
    return desk


def lines_of(text):
    """Return the lines of a text, none if it is empty."""
    return text.split("\n") if text != "" else []
