"""Engines: they keep a net and its state through turns and changes."""

from everyohm.carrying import are_places, carried
from everyohm.checks import require
from everyohm.netkinds import is_net
from everyohm.reaching import reached
from everyohm.statekinds import is_feeds, is_state
from everyohm.turning import turned


class Engine:
    """A net and its state, and what the last turn worked on."""

    def __init__(self, net, state):
        require(is_net(net), "net")
        require(is_state(net, state), "state")
        self._net = net
        self._state = state
        self._worked = ()

    def turn(self, feeds):
        """Make a turn; return its spread and the new state."""
        require(is_feeds(self._net, feeds), "feeds")
        groups = reached(self._net, self._state, feeds)
        first, states = turned(self._net, self._state, feeds)
        self._state = states[-1]
        self._worked = groups
        return first, states[-1]

    def change(self, net, places):
        """Keep another net, and the state carried over to it."""
        require(is_net(net), "net")
        require(are_places(places, len(self._net[2]), len(net[2])), "places")
        self._state = carried(self._net, self._state, net, places)
        self._net = net
        self._worked = ()

    def state(self):
        """Return the state that is kept."""
        return self._state

    def net(self):
        """Return the net that is kept."""
        return self._net

    def worked(self):
        """Return the groups that the last turn could reach, none behind a change."""
        return self._worked
