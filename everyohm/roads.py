"""Roads: from a root over switches to a node."""

from everyohm.checks import require
from everyohm.kinds import is_known
from everyohm.netnodes import is_node, is_switch_of, other_end
from everyohm.ranks import rank_of, switch_rank
from everyohm.statekinds import require_view
from everyohm.tables import firm_ranks, may_flood


def is_road(net, node, thing):
    """Return whether thing is a road to the node."""
    require(is_node(net, node), "node")
    return leads_to(net, node, thing)


def leads_to(net, node, thing):
    """Return whether thing is a road to what is known to be a node."""
    if not isinstance(thing, tuple) or len(thing) != 2:
        return False
    root, switches = thing
    if not is_node(net, root) or not are_steps(net, root, switches):
        return False
    return nodes_on(net, root, switches)[-1] == node


def are_steps(net, root, thing):
    """Return whether thing is a tuple of switches that lead from the root on."""
    if not isinstance(thing, tuple) or not all(is_switch_of(net, switch) for switch in thing):
        return False
    feeds = len(net[0])
    return all(node >= feeds for node in nodes_on(net, root, thing)[1:])


def nodes_on(net, root, switches):
    """Return the nodes that switches lead to; -1 stands where one does not go on."""
    nodes = [root]
    for switch in switches:
        nodes.append(other_end(net, switch, nodes[-1]))
    return tuple(nodes)


def road_nodes(net, root, switches):
    """Return the nodes of a road, the root first."""
    require_road(net, root, switches)
    return nodes_on(net, root, switches)


def road_ranks(net, root, switches):
    """Return the ranks of a road at its nodes, the root first."""
    require_road(net, root, switches)
    return ranks_on(net, root, switches)


def require_road(net, root, switches):
    """Raise NotUsable unless root and switches are a road."""
    require(is_node(net, root), "root")
    require(are_steps(net, root, switches), "switches")


def ranks_on(net, root, switches):
    """Return the ranks of what is known to be a road."""
    ranks = [rank_of(net, root)]
    for switch in switches:
        ranks.append(min(ranks[-1], switch_rank(net, switch)))
    return tuple(ranks)


def road_to(net, positions, held, value, node):
    """Return a road by which may_value comes to the node, or None if it is 0."""
    require_question(net, positions, held, value, node)
    return road_by(net, positions, held, value, node)


def require_question(net, positions, held, value, node):
    """Raise NotUsable unless one can ask for roads to the node."""
    require_view(net, positions, held)
    require(is_known(value), "value")
    require(is_node(net, node), "node")


def road_by(net, positions, held, value, node):
    """Return what road_to returns, for arguments that are known to fit."""
    floors = firm_ranks(net, positions)
    numbers, parents, _ = may_flood(net, positions, held, value, floors)
    if numbers[node] == 0:
        return None
    switches = []
    root = node
    while parents[root] >= 0:
        switches.append(parents[root])
        root = other_end(net, parents[root], root)
    return (root, tuple(reversed(switches)))


def judge_road(net, positions, held, value, node, paper):
    """Return whether paper is a likely road to the node with may_value all along."""
    require_question(net, positions, held, value, node)
    if not leads_to(net, node, paper):
        return False
    root, switches = paper
    if held[root] not in (value, 2) or any(positions[switch] == 0 for switch in switches):
        return False
    floors = firm_ranks(net, positions)
    numbers = may_flood(net, positions, held, value, floors)[0]
    wanted = tuple(numbers[at] for at in nodes_on(net, root, switches))
    return ranks_on(net, root, switches) == wanted
