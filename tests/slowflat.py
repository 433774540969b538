"""A slow second way to flatten books, to compare the package's with."""

RAILS = ("low", "high")


class Bad(Exception):
    """No net; args are the reason and the name."""


def reference(book, top):
    """Return the net as feeds, tanks and switches, or raise Bad."""
    names = [module[1] for module in book]
    for at, name in enumerate(names):
        if name in names[:at]:
            raise Bad("twice", name)
    if top not in names:
        raise Bad("top", top)
    modules = {module[1]: module for module in book}
    for name in names:
        if longest(modules, name, name) == "ring":
            raise Bad("ring", name)
    if longest(modules, top, None) > 8:
        raise Bad("deep", top)
    feeds, tanks, switches = ["low", "high"], [], []
    walk(modules, top, "", None, feeds, tanks, switches)
    number = {name: at for at, name in enumerate(feeds + [name for name, _ in tanks])}
    number["none"] = -1
    rows = [(kind, strength, number[gate], number[left], number[right]) for kind, strength, gate, left, right in switches]
    return tuple(feeds), tuple(tanks), tuple(rows)


def used(items):
    for item in items:
        if item[0] == "use":
            yield item[1]
        if item[0] == "for":
            yield from used(item[4])


def longest(modules, name, goal):
    """Return the longest way of uses from a module, or "ring" if it meets goal."""
    best, seen, level = 0, set(), {name}
    for step in range(1, len(modules) + 2):
        level = {other for one in level for other in used(modules[one][3]) if other in modules}
        if not level:
            return best
        seen |= level
        best = step
        if goal in seen:
            return "ring"
    return best


def walk(modules, name, ahead, given, feeds, tanks, switches):
    """Walk a module; wires are known by their flat names."""
    _, _, ports, items = modules[name]
    made = {}
    for at, (word, size, port, width) in enumerate(ports):
        if port in made:
            raise Bad("twice", port)
        wires = [port] if width == 0 else [f"{port}[{k}]" for k in range(width)]
        if given is None and word == "in":
            feeds.extend(wires)
        elif given is None:
            tanks.extend((wire, size) for wire in wires)
        else:
            wires = given[at]
        if len(feeds) > 40 or len(tanks) > 120:
            raise Bad("many", port)
        made[port] = ("bus" if width else "wire", id(ports), 0, wires)
    for item in items:
        step(modules, ahead, made, item, [], feeds, tanks, switches)


def step(modules, ahead, made, item, around, feeds, tanks, switches):
    numbers = "".join(f"[{number}]" for _, number in around)
    if item[0] == "for":
        low = worth(item[2], around, item[1])
        high = worth(item[3], around, item[1])
        if high - low + 1 > 64:
            raise Bad("loop", item[1])
        for number in range(low, high + 1):
            for inner in item[4]:
                step(modules, ahead, made, inner, around + [(item[1], number)], feeds, tanks, switches)
    elif item[0] == "switch":
        gate = "none" if item[3] is None else find(made, item[3], 0, around)[0]
        left = find(made, item[4], 0, around)[0]
        right = find(made, item[5], 0, around)[0]
        if left == right:
            raise Bad("ends", left)
        switches.append((item[1], item[2], gate, left, right))
        if len(switches) > 400:
            raise Bad("many", "")
    elif item[0] == "use":
        if item[1] not in modules:
            raise Bad("module", item[1])
        ports = modules[item[1]][2]
        if len(ports) != len(item[3]):
            raise Bad("ports", item[2])
        given = [find(made, term, port[3], around) for port, term in zip(ports, item[3])]
        claim(made, item[2], item, around)
        made[item[2]] = ("use", id(item), 0, [])
        walk(modules, item[1], ahead + item[2] + numbers + ".", given, feeds, tanks, switches)
    else:
        claim(made, item[2], item, around)
        wire = ahead + item[2] + numbers
        wires = [wire] if item[3] == 0 else [f"{wire}[{k}]" for k in range(item[3])]
        if max(len(one) for one in wires) > 80:
            raise Bad("long", item[2])
        tanks.extend((one, item[1]) for one in wires)
        if len(tanks) > 120:
            raise Bad("many", item[2])
        if not around:
            made[item[2]] = ("bus" if item[3] else "wire", id(item), 0, wires)
        else:
            table = made.setdefault(item[2], ("loop", id(item), len(around), {}))[3]
            table[tuple(number for _, number in around)] = wire


def claim(made, name, item, around):
    """Check that an item may make a name here."""
    if name in made and made[name][1] != id(item):
        raise Bad("twice", name)
    if any(number < 0 or number > 999999 for _, number in around):
        raise Bad("index", name)


def find(made, term, width, around):
    """Return the flat names of the wires of a term at a port of a width."""
    if term[0] == "rail":
        if width:
            raise Bad("bus", RAILS[term[1]])
        return [RAILS[term[1]]]
    name = term[1]
    if name not in made or made[name][0] == "use":
        raise Bad("name", name)
    form, _, depth, wires = made[name]
    if width:
        if form != "bus" or term[0] == "item":
            raise Bad("bus", name)
        if len(wires) != width:
            raise Bad("width", name)
        return wires
    numbers = [number for _, number in around]
    if term[0] == "wire":
        if form == "bus" or len(around) < depth:
            raise Bad("bus", name)
        if form == "wire":
            return wires
        key = tuple(numbers[:depth])
    elif form == "wire" or len(around) < depth - 1:
        raise Bad("bus", name)
    else:
        place = worth(term[2], around, name)
        if form == "bus":
            if not 0 <= place < len(wires):
                raise Bad("index", name)
            return [wires[place]]
        key = tuple(numbers[:depth - 1] + [place])
    if key not in wires:
        raise Bad("index", name)
    return [wires[key]]


def worth(expr, around, name):
    if expr[0] == "num":
        return expr[1]
    if expr[0] == "var":
        for loop, number in reversed(around):
            if loop == expr[1]:
                return number
        raise Bad("name", expr[1])
    one, other = worth(expr[1], around, name), worth(expr[2], around, name)
    result = {"plus": one + other, "minus": one - other, "times": one * other}[expr[0]]
    if abs(result) > 1000000:
        raise Bad("big", name)
    return result
