"""The digits of integers of any size.

Python itself refuses to turn integers of more than some 4300 figures into
strings, and back; so long ones are taken in pieces of sixty figures.
"""

from everyohm.kinds import DIGITS

PIECE = 60


def integer_text(integer):
    """Return the digits of integer, with - ahead if it is below 0."""
    sign = "-" if integer < 0 else ""
    rest = abs(integer)
    pieces = []
    while rest >= 10 ** 60:
        rest, piece = divmod(rest, 10 ** 60)
        pieces.append(str(piece).zfill(PIECE))
    pieces.append(str(rest))
    return sign + "".join(reversed(pieces))


def read_integer(text):
    """Return the integer whose integer_text is text, or None if there is none."""
    figures = text[1:] if text.startswith("-") else text
    if figures == "" or not all(sign in DIGITS for sign in figures):
        return None
    if figures[0] == "0" and text != "0":
        return None
    head = len(figures) % PIECE
    number = int(figures[:head]) if head else 0
    for start in range(head, len(figures), PIECE):
        number = number * 10 ** 60 + int(figures[start:start + PIECE])
    return -number if text.startswith("-") else number
