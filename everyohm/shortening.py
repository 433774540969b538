"""Making nets shorter, rule by rule."""

from everyohm.checks import require
from everyohm.doing import done_by
from everyohm.groups import is_watched
from everyohm.netnodes import count_of_nodes
from everyohm.rulekinds import does_fit
from everyohm.ruleslist import first_rule
from everyohm.starts import is_even
from everyohm.statekinds import is_state


class Shortening:
    """A net that becomes shorter, and the new numbers of its first nodes and switches."""

    def __init__(self, net, watched):
        self.net = net
        self.watched = watched
        self.nodes = tuple(range(count_of_nodes(net)))
        self.switches = tuple(range(len(net[2])))

    def do_rule(self, rule):
        """Do a rule that fits."""
        feeds = tuple(range(len(self.net[0])))
        self.net, tanks, places = done_by(self.net, self.watched, rule)
        numbers = feeds + tanks
        self.watched = tuple(numbers[tank] for tank in self.watched)
        self.nodes = behind(self.nodes, numbers)
        self.switches = behind(self.switches, places)

    def do_all(self, rules):
        """Do rules one after the other; return whether each, which may be any value, fits when it is due."""
        for rule in rules:
            if not does_fit(self.net, self.watched, rule):
                return False
            self.do_rule(rule)
        return True


def behind(numbers, others):
    """Return numbers, or -1, replaced by those that stand at them in others."""
    return tuple(others[number] if number >= 0 else -1 for number in numbers)


def shorten(net, watched):
    """Return the net behind all rules that fit, and the tuple of these."""
    require(is_watched(net, watched), "watched")
    work = Shortening(net, watched)
    rules = []
    rule = first_rule(work.net, work.watched)
    while rule is not None:
        work.do_rule(rule)
        rules.append(rule)
        rule = first_rule(work.net, work.watched)
    return work.net, tuple(rules)


def judge_short(net, watched, paper):
    """Return the net that the rules of a paper leave, or None if one of them does not fit."""
    require(is_watched(net, watched), "watched")
    work = work_by(net, watched, paper)
    return None if work is None else work.net


def work_by(net, watched, thing):
    """Return the work of rules on a net, or None if thing is no tuple of rules that fit."""
    work = Shortening(net, watched)
    return work if isinstance(thing, tuple) and work.do_all(thing) else None


def seen_in(net, watched, rules):
    """Return the number of each node in the net that rules leave, -1 for what is gone."""
    return require_work(net, watched, rules).nodes


def require_work(net, watched, rules):
    """Return the work of rules on a net, or raise NotUsable."""
    require(is_watched(net, watched), "watched")
    work = work_by(net, watched, rules)
    require(work is not None, "rules")
    return work


def short_state(net, watched, rules, state):
    """Return what is left of an even state in the net that rules leave."""
    work = require_work(net, watched, rules)
    require(is_state(net, state) and is_even(net, state), "state")
    positions, held = state
    return left_of(positions, work.switches), left_of(held, work.nodes)


def left_of(values, numbers):
    """Return the values that have a number, which ascend."""
    return tuple(value for value, number in zip(values, numbers) if number >= 0)
