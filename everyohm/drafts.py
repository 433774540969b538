"""A net that grows while the modules of a book are walked."""

from everyohm.errors import NotFlat

MOST_FEEDS = 40
MOST_TANKS = 120
MOST_SWITCHES = 400


class Draft:
    """The feeds, tanks and switches so far, and the modules of the book."""

    def __init__(self, book, many_feeds):
        self.modules = {module[1]: module for module in book}
        self.many_feeds = many_feeds
        self.feeds = ["low", "high"]
        self.tanks = []
        self.switches = []

    def add_feeds(self, names):
        """Add feeds and return their nodes."""
        start = len(self.feeds)
        self.feeds.extend(names)
        return list(range(start, len(self.feeds)))

    def add_tanks(self, names, size):
        """Add tanks of a size and return their nodes."""
        start = self.many_feeds + len(self.tanks)
        self.tanks.extend([(name, size) for name in names])
        return list(range(start, self.many_feeds + len(self.tanks)))

    def add_switch(self, switch):
        """Add a switch; NotFlat if there are too many."""
        self.switches.append(switch)
        if len(self.switches) > MOST_SWITCHES:
            raise NotFlat("many", "")

    def require_room(self, name):
        """Raise NotFlat with the name if there are too many feeds or tanks."""
        if len(self.feeds) > MOST_FEEDS or len(self.tanks) > MOST_TANKS:
            raise NotFlat("many", name)

    def node_name(self, node):
        """Return the flat name of a node."""
        if node < self.many_feeds:
            return self.feeds[node]
        return self.tanks[node - self.many_feeds][0]

    def net(self):
        """Return the net."""
        return (tuple(self.feeds), tuple(self.tanks), tuple(self.switches))
