"""Meshes: the flows between nodes, and the volts by which they balance."""

from everyohm.checks import require
from everyohm.kinds import is_number
from everyohm.quotients import is_part, lowest, over_common, sum_of
from everyohm.worldkinds import are_flows


def mesh_of(net, flows):
    """Return the mesh of a net with these flows."""
    require(are_flows(net, flows), "flows")
    shares = {}
    for (_, _, _, left, right), flow in zip(net[2], flows):
        if flow[0] > 0:
            add_flow(shares, left, right, flow)
    return mesh_with(shares)


def add_flow(shares, one, other, flow):
    """Add a flow between two nodes to the dict of what they share."""
    shares.setdefault((min(one, other), max(one, other)), []).append(flow)


def mesh_with(shares):
    """Return the mesh in which each two nodes have the sum of what they share."""
    rows = [(one, other, sum_of(shares[one, other])) for one, other in shares]
    return tuple(sorted(rows))


def without_node(mesh, node):
    """Return the mesh without a node, whose neighbours share its flows."""
    require(is_number(node), "node")
    shares = {}
    for one, other, flow in mesh:
        if node not in (one, other):
            add_flow(shares, one, other, flow)
    near = flows_at(mesh, node)
    whole = sum_of([flow for _, flow in near])
    for place, (one, flow) in enumerate(near):
        for other, further in near[place + 1:]:
            add_flow(shares, one, other, shared_flow(flow, further, whole))
    return mesh_with(shares)


def flows_at(mesh, node):
    """Return the neighbours of a node, each with its flow."""
    near = [(other, flow) for one, other, flow in mesh if one == node]
    return near + [(one, flow) for one, other, flow in mesh if other == node]


def shared_flow(flow, further, whole):
    """Return the product of two flows divided by the whole of a node's flows."""
    top = flow[0] * further[0] * whole[1]
    bottom = flow[1] * further[1] * whole[0]
    return lowest(top, bottom)


def volt_by(mesh, node, volts):
    """Return the mean of the neighbours' volts weighed by a node's flows with them."""
    require(is_number(node), "node")
    near = flows_at(mesh, node)
    require(near != [], "node")
    require(are_volts_by_number(volts), "volts")
    volt_at = dict(volts)
    require(all(other in volt_at for other, _ in near), "volts")
    return weighed_mean([flow for _, flow in near], [volt_at[other] for other, _ in near])


def are_volts_by_number(thing):
    """Return whether thing has pairs of a number and a volt, and no number twice."""
    if not isinstance(thing, tuple) or not all(is_numbered_volt(pair) for pair in thing):
        return False
    return len({number for number, _ in thing}) == len(thing)


def is_numbered_volt(thing):
    """Return whether thing is a pair of a number and a quotient from nought to one."""
    if not isinstance(thing, tuple) or len(thing) != 2:
        return False
    return is_number(thing[0]) and is_part(thing[1])


def weighed_mean(weights, volts):
    """Return the mean of volts, each weighed by the quotient at its place."""
    heavies, _ = over_common(weights)
    tops, bottom = over_common(volts)
    return lowest(sum(heavy * top for heavy, top in zip(heavies, tops)), sum(heavies) * bottom)
