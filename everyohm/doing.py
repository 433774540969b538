"""Doing a rule: what is left of a net, and under which numbers."""

from everyohm.checks import require
from everyohm.edits import replaced, with_numbers
from everyohm.groups import cone_of, is_watched
from everyohm.netnodes import count_of_nodes, other_end
from everyohm.rulekinds import does_fit


def rule_done(net, watched, rule):
    """Return the net without what the rule makes go, and the new numbers of tanks and switches."""
    require(is_watched(net, watched), "watched")
    require(does_fit(net, watched, rule), "rule")
    return done_by(net, watched, rule)


def done_by(net, watched, rule):
    """Return what rule_done returns, for a rule that is known to fit."""
    tanks = tanks_gone(net, watched, rule)
    return without(joined_net(net, rule), tanks, switches_gone(net, tanks, rule))


def tanks_gone(net, watched, rule):
    """Return the tanks that a rule makes go."""
    if rule[0] in ("stub", "series"):
        return [rule[1]]
    if rule[0] != "unseen":
        return []
    cone = cone_of(net, watched)
    return [tank for tank in range(len(net[0]), count_of_nodes(net)) if tank not in cone]


def switches_gone(net, tanks, rule):
    """Return the switches that a rule makes go, with the tanks that go."""
    if rule[0] == "series":
        return [rule[3]]
    if rule[0] in ("bridge", "twin", "shadow"):
        return [rule[-1]]
    return [place for place, switch in enumerate(net[2]) if any(node in tanks for node in switch[2:])]


def joined_net(net, rule):
    """Return the net in which the first switch of a series leads past its tank; others as they are."""
    if rule[0] != "series":
        return net
    feeds, tanks, switches = net
    _, tank, one, other = rule
    kind, strength, gate, _, _ = switches[one]
    weaker = min(strength, switches[other][1])
    ends = (other_end(net, one, tank), other_end(net, other, tank))
    return (feeds, tanks, replaced(switches, one, (kind, weaker, gate) + ends))


def without(net, tanks_out, switches_out):
    """Return the net without some tanks and switches, and the new numbers of those that it had."""
    feeds, tanks, switches = net
    first = len(feeds)
    node_numbers = closed_up(first + len(tanks), tanks_out)
    places = closed_up(len(switches), switches_out)
    left_tanks = tuple(pair for pair, number in zip(tanks, node_numbers[first:]) if number >= 0)
    left_switches = tuple(
        with_numbers(switch, node_numbers) for switch, place in zip(switches, places) if place >= 0
    )
    return (feeds, left_tanks, left_switches), node_numbers[first:], places


def closed_up(many, gone):
    """Return new numbers for many things without those that are gone, which get -1."""
    numbers = []
    left = 0
    for thing in range(many):
        numbers.append(-1 if thing in gone else left)
        left += 0 if thing in gone else 1
    return tuple(numbers)
