"""Responses: what each node shows by the strongest roads to it."""

from everyohm.statekinds import require_view
from everyohm.tables import firm_ranks, may_flood


def response(net, positions, held):
    """Return the response at each node."""
    require_view(net, positions, held)
    return responses_of(net, positions, held)


def responses_of(net, positions, held):
    """Return the responses, for positions and held values that are known to be such."""
    feeds = len(net[0])
    floors = firm_ranks(net, positions)
    zeros = may_flood(net, positions, held, 0, floors)[0]
    ones = may_flood(net, positions, held, 1, floors)[0]
    return held[:feeds] + answers(zeros[feeds:], ones[feeds:])


def answers(zeros, ones):
    """Return the response of each tank, by its may_0 and its may_1."""
    return tuple(answer(zero, one) for zero, one in zip(zeros, ones))


def answer(zero, one):
    """Return the response of a tank, by its may_0 and its may_1."""
    if zero == 0:
        return 1
    return 0 if one == 0 else 2
