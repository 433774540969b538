"""Labs: worlds that move."""

from everyohm.checks import require
from everyohm.edits import replaced
from everyohm.errors import InvalidMove, NotUsable
from everyohm.labstarts import start_fault
from everyohm.moves import move_fault
from everyohm.netkinds import is_net
from everyohm.netnodes import is_node
from everyohm.parts import part_with
from everyohm.quotients import NOUGHT, ONE, minus, plus, times, volt_reads
from everyohm.roundcounts import RoundCount
from everyohm.starts import reading_by_gate
from everyohm.volts import part_volts


class Lab:
    """A net with a base, closed flows and rooms for ever, and with volts and flows for now."""

    def __init__(self, net, base, closed, rooms, volts, flows):
        require(is_net(net), "net")
        fault = start_fault(net, base, closed, rooms, volts, flows)
        if fault != "":
            raise NotUsable(fault, -1)
        self._net = net
        self._start = (base, closed, rooms, volts, flows)
        self._volts = volts
        self._flows = flows
        self._settlings = 0
        self._adrift = 0
        self._count = RoundCount(net)

    def go(self, move):
        """Make one move."""
        reason = move_fault(self._net, self._start[0], move)
        if reason is not None:
            raise InvalidMove(move, reason)
        if move[0] == "turn":
            self._turn(move[1])
        elif move[0] == "feed":
            self._feed(move[1], move[2])
        elif move[0] == "read":
            self._read(move[1], move[2])
        else:
            self._settle(move[1], move[2])

    def _turn(self, volts):
        """Put new volts at all feeds; a turn begins."""
        self._volts = volts + self._volts[len(volts):]
        self._count.begin_turn()

    def _feed(self, feed, volt):
        """Put another volt at one feed."""
        self._volts = replaced(self._volts, feed, volt)
        self._count.count_move()

    def _read(self, switch, told):
        """Let a switch read its gate; what is told counts only if the reading is unknown."""
        kind, _, gate, _, _ = self._net[2][switch]
        reading = reading_by_gate(kind, volt_reads(self._volts[gate]))
        flow = (NOUGHT, self._start[1][switch], told)[reading]
        self._flows = replaced(self._flows, switch, flow)
        self._count.count_reading(switch)

    def _settle(self, tank, shares):
        """Let each tank of the part of a tank go its share of the way to where its volt settles."""
        feeds = len(self._net[0])
        tanks, touching = part_with(self._net, self._flows, tank)
        goals = part_volts(self._net, self._flows, self._start[2], self._volts, tanks, touching)
        volts = list(self._volts)
        for member, goal in zip(tanks, goals):
            volts[member] = on_the_way(volts[member], goal, shares[member - feeds])
        self._volts = tuple(volts)
        self._settlings += 1
        if is_adrift(self._net, tanks, touching):
            self._adrift += 1
        self._count.count_settling([member for member in tanks if shares[member - feeds] == ONE])

    def go_all(self, moves):
        """Make the moves one after the other, up to the first that cannot be made."""
        require(isinstance(moves, tuple), "moves")
        for move in moves:
            self.go(move)

    def volts(self):
        """Return the volts of the nodes now."""
        return self._volts

    def flows(self):
        """Return the flows of the switches now."""
        return self._flows

    def volt(self, node):
        """Return the volt of a node now."""
        require(is_node(self._net, node), "node")
        return self._volts[node]

    def reads(self, node):
        """Return what a node reads now."""
        require(is_node(self._net, node), "node")
        return volt_reads(self._volts[node])

    def settlings(self):
        """Return how many settlings were made, in all turns."""
        return self._settlings

    def adrift(self):
        """Return how many of the settlings were adrift."""
        return self._adrift

    def rounds(self):
        """Return how many rounds of the present turn have ended."""
        return self._count.ended

    def start(self):
        """Return the base, closed flows, rooms, volts and flows with which the lab was made."""
        return self._start

    def net(self):
        """Return the net of the lab."""
        return self._net


def on_the_way(volt, goal, share):
    """Return where a volt comes that goes a share of its way to a goal."""
    return plus(volt, times(share, minus(goal, volt)))


def is_adrift(net, tanks, touching):
    """Return whether a settling of these tanks, touched by these feeds, is adrift."""
    feeds = len(net[0])
    sizes = {net[1][tank - feeds][1] for tank in tanks}
    return touching == () and len(sizes) > 1
