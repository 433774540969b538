"""The texts of formulas, and reading them."""

from everyohm.checks import require
from everyohm.errors import InvalidText
from everyohm.formulas import is_formula
from everyohm.formulastacks import TIGHTNESS, FormulaStack
from everyohm.kinds import NAME_SIGNS
from everyohm.valuetexts import values_text

SIGNS = {"not": "!", "and": "&", "xor": "^", "or": "|"}
# Values, names and brackets hold together more tightly than all signs.
TIGHTEST = 5


def read_formula(text):
    """Return the formula whose text, with brackets where they are needed or not, is text."""
    require(isinstance(text, str), "text")
    stack = FormulaStack()
    place = 0
    while place < len(text):
        end = run_end(text, place)
        if not stack.can_take(text[place:end]):
            raise InvalidText(0, place)
        stack.take(text[place:end])
        place = end
    formula = stack.whole() if stack.can_end() else None
    if formula is None:
        raise InvalidText(0, len(text))
    return formula


def run_end(text, start):
    """Return the place behind the word, or the one character, at start."""
    end = start
    while end < len(text) and (text[end] in NAME_SIGNS or text[end] in ".[]"):
        end += 1
    return max(end, start + 1)


def formula_text(formula):
    """Return the text of a formula."""
    require(is_formula(formula), "formula")
    return text_of_formula(formula)


def text_of_formula(formula):
    """Return the text of what is known to be a formula."""
    word = formula[0]
    if word == "val":
        return values_text((formula[1],))
    if word == "at":
        return formula[1]
    sign = SIGNS[word]
    if word == "not":
        return sign + text_beside(formula[1], TIGHTNESS[sign])
    left = text_beside(formula[1], TIGHTNESS[sign])
    # Equal signs are read from the left, so the right side must be tighter.
    return left + sign + text_beside(formula[2], TIGHTNESS[sign] + 1)


def text_beside(formula, least):
    """Return the text of a part of a formula, in brackets unless it is tight enough."""
    text = text_of_formula(formula)
    word = formula[0]
    tightness = TIGHTNESS[SIGNS[word]] if word in SIGNS else TIGHTEST
    return text if tightness >= least else "(" + text + ")"
