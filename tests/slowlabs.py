"""Labs straight from the definitions, with fractions, and rounds counted anew from all that was done."""

from fractions import Fraction

from everyohm.labs import Lab
from everyohm.moves import reason_of
from nets import some_quotient
from slowranks import pair_of, slow_parts, slow_volts, tanks_of


def bounds(base, order):
    return base ** (2 * order), base ** (2 * order + 1)


def slow_reads(volt):
    return 0 if volt <= Fraction(1, 4) else 1 if volt >= Fraction(3, 4) else 2


class SlowLab:
    def __init__(self, net, base, closed, rooms, volts, flows):
        self.net, self.base, self.closed, self.rooms, self.flows = net, base, closed, rooms, list(flows)
        self.volts = [Fraction(*volt) for volt in volts]
        self.done, self.settlings, self.adrift = [], 0, 0

    def go(self, move):
        if move[0] == "turn":
            self.volts[:len(move[1])] = [Fraction(*volt) for volt in move[1]]
            self.done = []
        elif move[0] == "feed":
            self.volts[move[1]] = Fraction(*move[2])
            self.done.append(("feed",))
        elif move[0] == "read":
            kind, _, gate, _, _ = self.net[2][move[1]]
            reads = slow_reads(self.volts[gate])
            reads = 1 - reads if kind == "zero" and reads != 2 else reads
            self.flows[move[1]] = ((0, 1), self.closed[move[1]], move[2])[reads]
            self.done.append(("read", move[1]))
        else:
            self.settle(move[1], [Fraction(*share) for share in move[2]])

    def settle(self, tank, shares):
        first = len(self.net[0])
        goals = slow_volts(self.net, self.flows, self.rooms, [pair_of(volt) for volt in self.volts])
        part, feeds = next(pair for pair in slow_parts(self.net, self.flows) if tank in pair[0])
        for member in part:
            self.volts[member] += shares[member - first] * (goals[member] - self.volts[member])
        self.settlings += 1
        self.adrift += not feeds and len({self.net[1][member - first][1] for member in part}) > 1
        self.done.append(("settle", {member for member in part if shares[member - first] == 1}))

    def rounds(self):
        """Count the rounds from what was done since the turn began."""
        gated = {place for place, switch in enumerate(self.net[2]) if switch[0] != "tie"}
        count, start = 0, 0
        for end in range(1, len(self.done) + 1):
            since = self.done[start:end]
            reads = [what[1] if what[0] == "read" else None for what in since]
            if not gated <= set(reads):
                continue
            last = max([reads.index(switch) for switch in gated], default=-1)
            settled = set().union(*[what[1] for what in since[last + 1:] if what[0] == "settle"])
            if settled >= set(tanks_of(self.net)):
                count, start = count + 1, end
        return count


def some_start(source, net, state, base):
    """Return the start of a lab that fits a state with nought as slack."""
    closed = tuple(some_quotient(source, *bounds(base, switch[1])) for switch in net[2])
    rooms = tuple(some_quotient(source, *bounds(base, size)) for _, size in net[1])
    volts = tuple(some_quotient(source, 0, 1) if value == 2 else (value, 1) for value in state[1])
    flows = tuple(
        ((0, 1), whole, some_quotient(source, 0, bounds(base, switch[1])[1]))[position]
        for switch, position, whole in zip(net[2], state[0], closed))
    return base, closed, rooms, volts, flows


def some_feed_volts(source, feeds):
    """Return volts for a turn that fit feed values."""
    return tuple(some_quotient(source, 0, 1) if value == 2 else (value, 1) for value in feeds)


def gated(net):
    return [place for place, switch in enumerate(net[2]) if switch[0] != "tie"]


def some_move(source, net, base, free):
    """Return a move within a turn; only the feeds in free get other volts."""
    kinds = ["feed"] * bool(free) + ["read"] * (2 * bool(gated(net))) + ["settle"] * (2 * bool(net[1]))
    kind = source.choice(kinds or [None])
    if kind is None:
        return None
    if kind == "feed":
        return ("feed", source.choice(free), some_quotient(source, 0, 1))
    if kind == "read":
        switch = source.choice(gated(net))
        return ("read", switch, some_quotient(source, 0, bounds(base, net[2][switch][1])[1]))
    share = source.choice((lambda: (1, 1), lambda: (1, 1), lambda: some_quotient(source, 0, 1)))
    return ("settle", source.choice(tanks_of(net)), tuple(share() for _ in net[1]))


def slow_run_judge(net, state, feeds, tank, paper):
    """Return what judge_run is to return."""
    if not isinstance(paper, tuple) or len(paper) != 2 or not isinstance(paper[1], tuple):
        return False
    try:
        Lab(net, *paper[0])
    except (TypeError, ValueError):
        return False
    start, moves = paper
    base, closed, _, volts, flows = start
    if not isinstance(start, tuple) or any(reason_of(net, base, move) for move in moves):
        return False
    if [move[0] for move in moves].count("turn") != 1 or moves[0][0] != "turn":
        return False
    for position, whole, flow in zip(state[0], closed, flows):
        if not (position == 2 or flow == ((0, 1), whole)[position]):
            return False
    if any(value != 2 and volt != (value, 1) for value, volt in zip(state[1], volts)):
        return False
    lab, seen = SlowLab(net, *start), set()
    for move in moves:
        lab.go(move)
        if any(value != 2 and lab.volts[feed] != value for feed, value in enumerate(feeds)):
            return False
        seen.add(slow_reads(lab.volts[tank]))
    return seen >= {0, 1} and base >= slow_need(net, lab.adrift)


def slow_need(net, adrift):
    tanks, switches = len(net[1]), len(net[2])
    leak = min(tanks, switches // 2) * (switches - min(tanks, switches // 2))
    spill = min(tanks - 1, switches) if tanks else 0
    return max(2, 4 * (leak + adrift * spill))
