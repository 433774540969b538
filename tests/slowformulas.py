"""Formulas straight from the words: what they are worth, and which characters can stand where."""

import re

from bads import is_int
from everyohm.kinds import is_flat_name

SIGNS = {"not": "!", "and": "&", "xor": "^", "or": "|"}
NAMES = ("a", "b1", "alu.q[3]", "m[0][12].q", "x_", "low")


def slow_is_formula(thing, depth=8):
    if not isinstance(thing, tuple) or depth == 0 or not thing:
        return False
    if thing[0] == "val" and len(thing) == 2:
        return is_int(thing[1]) and 0 <= thing[1] <= 2
    if thing[0] == "at" and len(thing) == 2:
        return isinstance(thing[1], str) and is_flat_name(thing[1])
    many = {"not": 2, "and": 3, "or": 3, "xor": 3}.get(thing[0] if isinstance(thing[0], str) else None)
    return len(thing) == many and all(slow_is_formula(part, depth - 1) for part in thing[1:])


def slow_worth(formula, known):
    """Return the worth as the joined one of all ways to fill in what is unknown, part by part."""
    word = formula[0]
    if word == "val":
        return formula[1]
    if word == "at":
        return dict(known)[formula[1]]
    parts = [slow_worth(part, known) for part in formula[1:]]
    ways = [[]]
    for part in parts:
        ways = [way + [value] for way in ways for value in ((0, 1) if part == 2 else (part,))]
    table = {"not": lambda u: 1 - u, "and": lambda u, v: u & v, "or": lambda u, v: u | v, "xor": lambda u, v: u ^ v}
    told = {table[word](*way) for way in ways}
    return told.pop() if len(told) == 1 else 2


def some_formula(source, depth, names=NAMES):
    kind = source.choice(("val", "at", "at", "not", "and", "or", "xor", "and", "or")) if depth > 1 else source.choice(("val", "at"))
    if kind == "val":
        return (kind, source.randrange(3))
    if kind == "at":
        return (kind, source.choice(names))
    return (kind,) + tuple(some_formula(source, depth - 1, names) for _ in range(1 if kind == "not" else 2))


def deep_formula(source, depth):
    """Return a formula that is just so deep."""
    if depth == 1:
        return some_formula(source, 1)
    deep = deep_formula(source, depth - 1)
    other = some_formula(source, source.randint(1, depth - 1))
    word = source.choice(("not", "and", "or", "xor"))
    return (word, deep) if word == "not" else source.choice(((word, deep, other), (word, other, deep)))


def full_text(formula):
    """Return a text with brackets around each part that has parts."""
    word = formula[0]
    if word == "val":
        return "01x"[formula[1]]
    if word == "at":
        return formula[1]
    parts = [full_text(part) for part in formula[1:]]
    return "(!" + parts[0] + ")" if word == "not" else "(" + SIGNS[word].join(parts) + ")"


def slow_read(text):
    """Return the formula of a text that is one, by its loosest sign from the right, of any depth."""
    words = {"0": 0, "1": 1, "x": 2}
    if text in words:
        return ("val", words[text])
    if is_flat_name(text):
        return ("at", text)
    for word in ("or", "xor", "and"):
        depth = 0
        for place in range(len(text) - 1, -1, -1):
            depth += (text[place] == ")") - (text[place] == "(")
            if depth == 0 and text[place] == SIGNS[word]:
                return (word, slow_read(text[:place]), slow_read(text[place + 1:]))
    return ("not", slow_read(text[1:])) if text[0] == "!" else slow_read(text[1:-1])


def first_bad(text):
    """Return the place of the first character that cannot stand there, the length if it ends too early, or -1."""
    open_now, wants_part = 0, True
    for match in re.finditer(r"[a-z0-9_.\[\]]+|.", text, re.DOTALL):
        sign = match.group()
        if wants_part:
            fits = sign in ("!", "(", "0", "1", "x") or is_flat_name(sign)
            wants_part = sign in ("!", "(")
            open_now += sign == "("
        else:
            fits = sign in ("&", "^", "|") or (sign == ")" and open_now > 0)
            wants_part = sign != ")"
            open_now -= sign == ")"
        if not fits:
            return match.start()
    return len(text) if wants_part or open_now else -1


def depth_of(formula):
    return 1 + max([depth_of(part) for part in formula[1:] if isinstance(part, tuple)], default=0)
