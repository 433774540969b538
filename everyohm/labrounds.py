"""Moves that make whole rounds and whole turns."""

from everyohm.checks import require
from everyohm.kinds import is_number
from everyohm.moves import are_feed_volts, whole_settling
from everyohm.netnodes import count_of_nodes
from everyohm.quotients import NOUGHT


def whole_round(net):
    """Return the moves by which each switch reads, then each tank settles."""
    moves = [("read", place, NOUGHT) for place, switch in enumerate(net[2]) if switch[0] != "tie"]
    for tank in range(len(net[0]), count_of_nodes(net)):
        moves.append(whole_settling(net, tank))
    return tuple(moves)


def whole_turn(net, volts, rounds):
    """Return a turn with these volts at the feeds, and as many whole rounds behind it."""
    require(are_feed_volts(net, volts), "volts")
    require(is_number(rounds), "rounds")
    return (("turn", volts),) + whole_round(net) * rounds
