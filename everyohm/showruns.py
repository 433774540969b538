"""Runs that show which tanks are unknown within a turn."""

from everyohm.checks import require
from everyohm.edits import replaced
from everyohm.flickers import is_single_by
from everyohm.quotients import NOUGHT, ONE
from everyohm.showplans import plans_for
from everyohm.starts import has_known_gates, reading_by_gate
from everyohm.statekinds import is_feeds, is_state
from everyohm.worldkinds import bounds_of, needed_base


def shown_run(net, state, feeds):
    """Return one run of a single turn in which all tanks that are to be shown read 0 and 1."""
    require(is_state(net, state) and has_known_gates(net, state), "state")
    require(is_feeds(net, feeds) and is_single_by(net, state, feeds), "feeds")
    plans = plans_for(net, state, feeds)
    draft = RunDraft(net, state, feeds, plans)
    for plan in plans:
        draft.show(plan)
    return start_for(net, state, plans), tuple(draft.moves)


class RunDraft:
    """The moves of a run so far, what nodes read behind them, and the switches that have yet to read."""

    def __init__(self, net, state, feeds, plans):
        positions, held = state
        self.net = net
        # A feed that is told 2 may have any volt; it begins with nought.
        self.free = [feed for feed, value in enumerate(feeds) if value == 2]
        self.told = [0 if value == 2 else value for value in feeds] + list(held[len(feeds):])
        self.moves = [("turn", tuple((value, 1) for value in self.told[:len(feeds)]))]
        self.waiting = {}
        for switch, position in enumerate(positions):
            for plan in plans:
                wanted = plan.wanted(net, switch, position)
                if wanted != position:
                    self.waiting[switch] = wanted

    def show(self, plan):
        """Let the tank of a plan settle at its value, alone, when all switches of its group are as it needs."""
        self.read_all()
        for feed in self.free:
            self.put(feed, plan.value)
        tank = plan.tank
        shares = (NOUGHT,) * len(self.net[1])
        self.moves.append(("settle", tank, replaced(shares, tank - len(self.net[0]), ONE)))
        self.told[tank] = plan.value

    def read_all(self):
        """Let each waiting switch read whose gate now is, or can be, as it needs."""
        for switch, wanted in list(self.waiting.items()):
            kind, _, gate, _, _ = self.net[2][switch]
            value = reading_by_gate(kind, wanted)
            if gate in self.free:
                self.put(gate, value)
            if self.told[gate] == value:
                self.moves.append(("read", switch, NOUGHT))
                self.waiting.pop(switch)

    def put(self, feed, value):
        """Put the volt of a known value at a feed that is told 2."""
        if self.told[feed] != value:
            self.moves.append(("feed", feed, (value, 1)))
            self.told[feed] = value


def start_for(net, state, plans):
    """Return the start of a lab in which the roads of the plans are strong and all else is weak."""
    # Each plan makes one settling, which may be adrift.
    base = needed_base(net, max(1, len(plans)))
    positions, held = state
    roots = [plan.root for plan in plans]
    strong = [switch for plan in plans for switch in plan.road]
    closed = tuple(bound(base, switch[1], place in strong) for place, switch in enumerate(net[2]))
    rooms = tuple(bound(base, size, tank in roots) for tank, (_, size) in enumerate(net[1], start=len(net[0])))
    flows = tuple(flow if position == 1 else NOUGHT for flow, position in zip(closed, positions))
    return (base, closed, rooms, start_volts(held, plans), flows)


def bound(base, order, is_strong):
    """Return the greatest quotient within the bounds of a strength or a size, or the least."""
    least, greatest = bounds_of(base, order)
    return (greatest if is_strong else least, 1)


def start_volts(held, plans):
    """Return the volts at the start: what is held 2 has what the plan of its group needs."""
    helpful = {tank: plan.value for plan in plans for tank in plan.group}
    return tuple((helpful.get(node, 0) if value == 2 else value, 1) for node, value in enumerate(held))
