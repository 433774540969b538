"""The texts of nets and of their states."""

from everyohm.checks import require
from everyohm.netnodes import names_of
from everyohm.statekinds import is_state
from everyohm.valuetexts import values_text


def net_text(net):
    """Return a line for the feeds, one for each tank, one for each switch."""
    names = names_of(net)
    lines = [" ".join(("net",) + net[0])]
    for name, size in net[1]:
        lines.append(f"tank {name} {size}")
    for switch in net[2]:
        lines.append(switch_text(switch, names))
    return "\n".join(lines)


def switch_text(switch, names):
    """Return the line of a switch; a tie has no gate."""
    kind, strength, gate, left, right = switch
    nodes = (left, right) if kind == "tie" else (gate, left, right)
    return f"{kind} {strength} " + " ".join(names[node] for node in nodes)


def state_text(net, state):
    """Return the values at feeds, those at tanks, and the positions."""
    require(is_state(net, state), "state")
    positions, held = state
    feeds = len(net[0])
    parts = (held[:feeds], held[feeds:], positions)
    return "state " + " ".join(values_text(part) for part in parts)
