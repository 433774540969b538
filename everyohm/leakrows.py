"""Rows of tanks with leaks at their end: the nets in which most is lost."""

from everyohm.checks import require
from everyohm.kinds import is_integer, is_number
from everyohm.quotients import NOUGHT, ONE, power
from everyohm.worldkinds import is_base

HIGH = 1
FIRST_TANK = 2


def row_net(many, leaks):
    """Return the net of a row of many tanks from high, with leaks to low at the last one."""
    require_row(many, leaks)
    tanks = tuple((f"t{place}", 1) for place in range(many))
    # The nodes from high on stand in the sequence of the row.
    row = tuple(("tie", 2, -1, node - 1, node) for node in range(FIRST_TANK, FIRST_TANK + many))
    return (("low", "high"), tanks, row + (("tie", 1, -1, 0, HIGH + many),) * leaks)


def require_row(many, leaks):
    """Raise NotUsable unless there is a row with so many tanks and leaks."""
    require(is_integer(many) and many >= 1, "many")
    require(is_number(leaks), "leaks")


def row_world(many, leaks, base):
    """Return the world of the row in which the last tank's volt is least."""
    require_row(many, leaks)
    require(is_base(base), "base")
    flows = ((power(base, 4), 1),) * many + ((power(base, 3), 1),) * leaks
    rooms = ((power(base, 2), 1),) * many
    return (base, flows, rooms, (NOUGHT,) + (ONE,) * (1 + many))
