"""Desks: a net that is edited while it runs."""

from everyohm.checks import require
from everyohm.desklines import read_order
from everyohm.deskorders import done, told
from everyohm.errors import (
    InvalidLine, InvalidText, NameTwice, NoSuchName, NotFlat, NotUsable, StillUsed, TooMany, Unended,
)
from everyohm.starts import unknown_start

ASKING = ("spread", "flicker", "tell", "why", "net", "state", "bench")


class Desk:
    """A net, its state, and the lines that made them."""

    def __init__(self):
        self._net = (("low", "high"), (), ())
        self._state = unknown_start(self._net)
        self._log = ()

    def say(self, text):
        """Do the order with the line text, and return the answer."""
        require(isinstance(text, str), "text")
        try:
            return self._answer(text)
        except InvalidLine:
            return "no: InvalidLine"
        except InvalidText:
            return "no: InvalidText"
        except NameTwice:
            return "no: NameTwice"
        except NoSuchName:
            return "no: NoSuchName"
        except NotFlat:
            return "no: NotFlat"
        except NotUsable:
            return "no: NotUsable"
        except StillUsed:
            return "no: StillUsed"
        except TooMany:
            return "no: TooMany"
        except Unended:
            return "no: Unended"

    def _answer(self, text):
        """Return the answer to a line; nothing changes if an error is raised."""
        order = read_order(text)
        if order[0] in ASKING:
            return told(self._net, self._state, order)
        self._net, self._state, answer = done(self._net, self._state, order)
        self._log = self._log + (text,)
        return answer

    def net(self):
        """Return the net."""
        return self._net

    def state(self):
        """Return the state."""
        return self._state

    def log(self):
        """Return the lines that changed something, the oldest first."""
        return self._log
