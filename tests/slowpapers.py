"""What judges say, straight from the sentences of the points; and papers with one thing changed."""

from fractions import Fraction

from bads import is_int, is_pair
from slowranks import slow_volts, tanks_of


def is_column(net, thing):
    return isinstance(thing, tuple) and len(thing) == len(net[1]) and all(is_int(one) and one >= 0 for one in thing)


def slow_firm_judge(net, positions, paper):
    """Return what judge_firm is to return."""
    if not isinstance(paper, tuple) or len(paper) != 3:
        return None
    ranks, parents, steps = paper
    if not (is_column(net, ranks) and is_column(net, steps) and isinstance(parents, tuple)):
        return None
    if len(parents) != len(net[1]) or not all(is_int(one) for one in parents):
        return None
    first = len(net[0])
    for at, tank in enumerate(tanks_of(net)):
        parent = parents[at]
        if parent == -1:
            if ranks[at] > net[1][at][1]:
                return None
            continue
        if not 0 <= parent < len(net[2]) or positions[parent] != 1:
            return None
        _, strength, _, left, right = net[2][parent]
        if tank not in (left, right):
            return None
        other = left + right - tank
        if other >= first and not steps[other - first] < steps[at]:
            return None
        if ranks[at] > 4 + strength or ranks[at] > (11 if other < first else ranks[other - first]):
            return None
    return ranks


def slow_may_judge(net, positions, held, value, ranks, paper):
    """Return what judge_may is to return."""
    if not is_column(net, paper):
        return None
    first = len(net[0])
    for at, tank in enumerate(tanks_of(net)):
        size = net[1][at][1]
        if held[tank] in (value, 2) and size >= ranks[at] and not paper[at] >= size:
            return None
        for (_, strength, _, left, right), position in zip(net[2], positions):
            if position == 0 or tank not in (left, right):
                continue
            other = left + right - tank
            if other >= first:
                number = paper[other - first]
            else:
                number = 11 if held[other] in (value, 2) else 0
            number = min(number, 4 + strength)
            if number >= ranks[at] and not paper[at] >= number:
                return None
    return paper


def slow_tables_judge(net, positions, held, paper):
    """Return what judge_tables is to return."""
    if not isinstance(paper, tuple) or len(paper) != 5:
        return None
    ranks = slow_firm_judge(net, positions, paper[:3])
    if ranks is None:
        return None
    for value in (0, 1):
        if slow_may_judge(net, positions, held, value, ranks, paper[3 + value]) is None:
            return None
    told = tuple(1 if low == 0 else 0 if high == 0 else 2 for low, high in zip(*paper[3:]))
    return held[:len(net[0])] + told


def is_quotients(thing, many, least, most=None):
    if not isinstance(thing, tuple) or len(thing) != many or not all(is_pair(one) for one in thing):
        return False
    return all(least <= Fraction(*one) and (most is None or Fraction(*one) <= most) for one in thing)


def slow_fits(net, positions, held, world):
    """Return whether a value is a world that fits, with nought as slack."""
    nodes = len(net[0]) + len(net[1])
    if not isinstance(world, tuple) or len(world) != 4 or not is_int(world[0]) or world[0] < 2:
        return False
    base, flows, rooms, charges = world
    if not is_quotients(flows, len(net[2]), 0) or not is_quotients(rooms, len(net[1]), 0):
        return False
    if not is_quotients(charges, nodes, 0, 1):
        return False
    for switch, position, flow in zip(net[2], positions, flows):
        least, most = base ** (2 * switch[1]), base ** (2 * switch[1] + 1)
        low, high = ((0, 0), (least, most), (0, most))[position]
        if not low <= Fraction(*flow) <= high:
            return False
    for (_, size), room in zip(net[1], rooms):
        if not base ** (2 * size) <= Fraction(*room) <= base ** (2 * size + 1):
            return False
    return all(value == 2 or charge == (value, 1) for value, charge in zip(held, charges))


def slow_pair_judge(net, positions, held, tank, paper):
    """Return what judge_pair is to return."""
    if not isinstance(paper, tuple) or len(paper) != 4:
        return False
    nodes = len(net[0]) + len(net[1])
    for world, volts in (paper[:2], paper[2:]):
        if not slow_fits(net, positions, held, world) or not is_quotients(volts, nodes, 0, 1):
            return False
        if [Fraction(*volt) for volt in volts] != slow_volts(net, *world[1:]):
            return False
    return Fraction(*paper[1][tank]) <= Fraction(1, 4) and Fraction(*paper[3][tank]) >= Fraction(3, 4)


def replaced(row, at, part):
    return row[:at] + (part,) + row[at + 1:]


def changes(paper, parts):
    """Give a nested tuple with each of its parts, at any depth, replaced, cut, doubled or made a list."""
    for at, part in enumerate(paper):
        for other in parts:
            yield replaced(paper, at, other)
        if is_int(part):
            for other in (part + 1, part - 1, str(part), (part,), bool(part)):
                yield replaced(paper, at, other)
        if isinstance(part, tuple):
            for other in changes(part, parts):
                yield replaced(paper, at, other)
        yield paper[:at] + paper[at + 1:]
        yield replaced(paper, at, part)[:at] + (part,) + paper[at:]
    yield list(paper)


def one_as_true(paper):
    """Give a nested tuple with True in the place of each 1, and False in that of each 0."""
    for at, part in enumerate(paper):
        if is_int(part) and part in (0, 1):
            yield replaced(paper, at, bool(part))
        if isinstance(part, tuple):
            for other in one_as_true(part):
                yield replaced(paper, at, other)


def as_lists(paper):
    """Give a nested tuple with a list in the place of each tuple in it."""
    yield list(paper)
    for at, part in enumerate(paper):
        if isinstance(part, tuple):
            for other in as_lists(part):
                yield replaced(paper, at, other)
