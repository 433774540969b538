"""Fillings: all ways to replace each unknown position and held value by 0 or 1."""

from everyohm.merging import merged_values
from everyohm.statekinds import require_view
from everyohm.values import joined_of


def fillings(net, positions, held):
    """Give all pairs (positions, held) without a 2 that the two may stand for."""
    require_view(net, positions, held)
    values = positions + held
    places = [place for place, value in enumerate(values) if value == 2]
    for number in range(1 << len(places)):
        filled = filled_in(values, places, number)
        yield (filled[:len(positions)], filled[len(positions):])


def filled_in(values, places, number):
    """Return the values with the binary digits of number at the places."""
    filled = list(values)
    rest = number
    # The last place changes fastest, so it has the last digit.
    for place in reversed(places):
        filled[place] = rest % 2
        rest = rest // 2
    return tuple(filled)


def by_fillings(net, positions, held):
    """Return the joined values of all fillings' heaps at each node."""
    rows = [merged_values(net, closed, known) for closed, known in fillings(net, positions, held)]
    return tuple(joined_of([row[node] for row in rows]) for node in range(len(held)))
