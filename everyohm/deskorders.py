"""What the orders of a desk do, and what they tell."""

from everyohm.benchreading import read_bench
from everyohm.bookreading import read_book
from everyohm.carrying import carried
from everyohm.edits import (
    with_feed, with_size, with_strength, with_switch, with_tank, without_switch, without_tank,
)
from everyohm.flattening import flat
from everyohm.flickers import flickers
from everyohm.netnodes import name_of, node_of
from everyohm.nettexts import net_text, state_text
from everyohm.searching import run_bench
from everyohm.shortening import short_state, shorten
from everyohm.starts import unknown_start
from everyohm.tables import firm, may
from everyohm.turning import spread, turn
from everyohm.valuetexts import values_text

MOST_FOLLOWERS = 2000


def done(net, state, order):
    """Return the net and the state behind an order, and the answer."""
    word = order[0]
    if word == "go":
        _, states = turn(net, state, order[1])
        return net, states[-1], f"depth {len(states) - 1}"
    if word == "make":
        other = flat(read_book(order[2]), order[1])
        return other, unknown_start(other), "ok"
    if word == "short":
        return shortened(net, state, order[1])
    other, places = edited(net, order)
    return other, carried(net, state, other, places), "ok"


def shortened(net, state, names):
    """Return the net made shorter with the nodes of these names watched, its state, and the answer."""
    watched = tuple(sorted({node_of(net, name) for name in names}))
    other, rules = shorten(net, watched)
    return other, short_state(net, watched, rules, state), "ok"


def edited(net, order):
    """Return the net behind an edit, and the places of its switches."""
    word, parts = order[0], order[1:]
    if word == "feed":
        return with_feed(net, *parts)
    if word == "tank":
        return with_tank(net, *parts)
    if word == "drop":
        return without_tank(net, *parts)
    if word == "cut":
        return without_switch(net, *parts)
    if word == "size":
        return with_size(net, *parts)
    if word == "strength":
        return with_strength(net, *parts)
    if word == "tie":
        strength, left, right = parts
        return with_switch(net, word, strength, None, left, right)
    return with_switch(net, word, *parts)


def told(net, state, order):
    """Return the answer to an order that changes nothing."""
    word = order[0]
    if word == "spread":
        return values_text(spread(net, state, order[1])[1])
    if word == "flicker":
        return flicker_text(net, state, order[1])
    if word == "tell":
        return values_text(state[1])
    if word == "why":
        return ranks_text(net, state, node_of(net, order[1]))
    if word == "bench":
        return bench_result(net, order[1])
    return net_text(net) if word == "net" else state_text(net, state)


def flicker_text(net, state, feeds):
    """Return the names of the tanks that flicker in a turn, or - if there are none."""
    names = [name_of(net, tank) for tank in flickers(net, state, feeds)]
    return " ".join(names) or "-"


def ranks_text(net, state, node):
    """Return the firm rank, may_0 and may_1 of a node."""
    positions, held = state
    rows = (firm(net, positions), may(net, positions, held, 0), may(net, positions, held, 1))
    return " ".join(str(row[node]) for row in rows)


def bench_result(net, text):
    """Return whether the bench with this text is kept, or where it is not."""
    result = run_bench(net, read_bench(text), MOST_FOLLOWERS)
    return "kept" if result[0] == "kept" else f"{result[0]} {result[1]}"
