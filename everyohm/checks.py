"""The check that every function makes of its parameters."""

from everyohm.errors import NotUsable


def require(fits, word):
    """Raise NotUsable for the parameter called word, unless it fits."""
    if not fits:
        raise NotUsable(word, -1)
