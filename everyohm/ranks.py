"""The ranks of nodes and of switches."""

from everyohm.checks import require
from everyohm.netnodes import is_node, is_switch_of

RANK_OF_FEEDS = 11
RANK_BELOW_SWITCHES = 4


def rank_of(net, node):
    """Return the rank of a node: the size of a tank, 11 for a feed."""
    require(is_node(net, node), "node")
    feeds = len(net[0])
    return RANK_OF_FEEDS if node < feeds else net[1][node - feeds][1]


def ranks_of(net):
    """Return the ranks of all nodes."""
    feeds, tanks, _ = net
    return (RANK_OF_FEEDS,) * len(feeds) + tuple(size for _, size in tanks)


def rank_of_strength(strength):
    """Return the rank of the switches of a strength."""
    return RANK_BELOW_SWITCHES + strength


def switch_rank(net, switch):
    """Return the rank of a switch: 4 more than its strength."""
    require(is_switch_of(net, switch), "switch")
    return rank_of_strength(net[2][switch][1])
