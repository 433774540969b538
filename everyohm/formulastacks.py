"""A stack on which the signs and words of a formula's text become the formula."""

from everyohm.formulas import DEEPEST
from everyohm.kinds import is_flat_name

VALUE_WORDS = {"0": 0, "1": 1, "x": 2}
PAIR_SIGNS = {"&": "and", "^": "xor", "|": "or"}
# How tightly signs hold together; an open bracket holds nothing back.
TIGHTNESS = {"(": 0, "|": 1, "^": 2, "&": 3, "!": 4}


class FormulaStack:
    """The parts read so far, each with its depth, and the signs that wait for what is behind them."""

    def __init__(self):
        self.parts = []
        self.signs = []
        self.awaits_part = True

    def can_take(self, sign):
        """Return whether a sign or a word can stand behind those that were taken."""
        if self.awaits_part:
            return sign in ("!", "(") or sign in VALUE_WORDS or is_flat_name(sign)
        return sign in PAIR_SIGNS or (sign == ")" and "(" in self.signs)

    def can_end(self):
        """Return whether the text can end here."""
        return not self.awaits_part and "(" not in self.signs

    def take(self, sign):
        """Take a sign or a word that can stand here."""
        if sign == "!" or sign == "(":
            self.signs.append(sign)
        elif sign == ")":
            self.put_together(1)
            self.signs.pop()
        elif sign in PAIR_SIGNS:
            # Equal signs are read from the left, so an equal one ahead is done first.
            self.put_together(TIGHTNESS[sign])
            self.signs.append(sign)
            self.awaits_part = True
        else:
            self.parts.append((part_for(sign), 1))
            self.awaits_part = False

    def put_together(self, least):
        """Do the last signs, as long as they are at least so tight."""
        while self.signs != [] and TIGHTNESS[self.signs[-1]] >= least:
            self.do_sign(self.signs.pop())

    def do_sign(self, sign):
        """Put the last parts together as a sign says."""
        last, depth = self.parts.pop()
        if sign == "!":
            self.parts.append(deeper(("not", last), depth))
        else:
            first, other_depth = self.parts.pop()
            self.parts.append(deeper((PAIR_SIGNS[sign], first, last), max(depth, other_depth)))

    def whole(self):
        """Return the formula of all that was taken, or None if it is too deep."""
        self.put_together(1)
        return self.parts[0][0]


def deeper(formula, depth):
    """Return a formula with its depth, one more than that of its parts; None instead of one too deep."""
    return (formula if depth < DEEPEST else None, depth + 1)


def part_for(word):
    """Return the formula that is a word."""
    if word in VALUE_WORDS:
        return ("val", VALUE_WORDS[word])
    return ("at", word)
