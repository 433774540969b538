"""Counting the rounds of a turn."""


class RoundCount:
    """How many rounds of a turn have ended, and what the next one still needs."""

    def __init__(self, net):
        feeds, tanks, switches = net
        self.switches = [place for place, switch in enumerate(switches) if switch[0] != "tie"]
        self.tanks = [len(feeds) + place for place in range(len(tanks))]
        self.ended = 0
        self.unread = list(self.switches)
        self.unsettled = list(self.tanks)

    def begin_turn(self):
        """Count anew, as a turn begins."""
        self.ended = 0
        self.begin_round()

    def begin_round(self):
        """Let the next round need all readings and all settlings."""
        self.unread = list(self.switches)
        self.unsettled = list(self.tanks)

    def count_reading(self, switch):
        """Take note that a switch has read."""
        self.unread = [other for other in self.unread if other != switch]
        self.count_move()

    def count_settling(self, tanks):
        """Take note that tanks have settled with one as their shares."""
        # What settles ahead of the last reading does not count.
        if self.unread == []:
            self.unsettled = [tank for tank in self.unsettled if tank not in tanks]
        self.count_move()

    def count_move(self):
        """Take note of any move but a turn: a round that lacks nothing ends with it."""
        if self.unread == [] and self.unsettled == []:
            self.ended += 1
            self.begin_round()
