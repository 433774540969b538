"""What a book is: modules with ports and items."""

from everyohm.checks import require
from everyohm.errors import NoSuchName
from everyohm.exprs import is_expr
from everyohm.kinds import is_between, is_name
from everyohm.words import is_book_name

MOST_LOOPS = 6
WIDEST = 32
GREATEST_SIZE = 4
GREATEST_STRENGTH = 6


def is_size(thing):
    """Return whether thing is the size of a tank."""
    return is_between(thing, 1, GREATEST_SIZE)


def is_strength(thing):
    """Return whether thing is the strength of a switch."""
    return is_between(thing, 1, GREATEST_STRENGTH)


def is_kind(thing):
    """Return whether thing is the kind of a switch."""
    return isinstance(thing, str) and thing in ("one", "zero", "tie")


def is_record(thing, word, many):
    """Return whether thing is a tuple of many parts, the first of them word."""
    return isinstance(thing, tuple) and len(thing) == many and thing[0] == word


def is_book(thing):
    """Return whether thing is a book."""
    return isinstance(thing, tuple) and all(is_module(module) for module in thing)


def is_module(thing):
    """Return whether thing is a module."""
    if not is_record(thing, "module", 4) or not is_book_name(thing[1]):
        return False
    ports = thing[2]
    if not isinstance(ports, tuple) or not all(is_port(port) for port in ports):
        return False
    return are_items(thing[3], 0)


def is_port(thing):
    """Return whether thing is a port."""
    if is_record(thing, "in", 4):
        fits = is_between(thing[1], 0, 0)
    else:
        fits = is_record(thing, "io", 4) and is_size(thing[1])
    return fits and is_book_name(thing[2]) and is_between(thing[3], 0, WIDEST)


def are_items(thing, depth):
    """Return whether thing is a tuple of items that stand in depth loops."""
    return isinstance(thing, tuple) and all(is_item(item, depth) for item in thing)


def is_item(thing, depth):
    """Return whether thing is an item that stands in depth loops."""
    return is_tank(thing, depth) or is_switch(thing) or is_use(thing) or is_loop(thing, depth)


def is_tank(thing, depth):
    """Return whether thing is a tank that stands in depth loops."""
    if not is_record(thing, "tank", 4):
        return False
    widest = 0 if depth > 0 else WIDEST
    return is_size(thing[1]) and is_book_name(thing[2]) and is_between(thing[3], 0, widest)


def is_switch(thing):
    """Return whether thing is a switch of a book."""
    if not is_record(thing, "switch", 6):
        return False
    kind, strength, gate, left, right = thing[1:]
    if not is_kind(kind) or not is_strength(strength):
        return False
    gate_fits = gate is None if kind == "tie" else is_term(gate)
    return gate_fits and is_term(left) and is_term(right)


def is_use(thing):
    """Return whether thing is the use of a module."""
    if not is_record(thing, "use", 4):
        return False
    terms = thing[3]
    if not isinstance(terms, tuple) or not all(is_term(term) for term in terms):
        return False
    return is_book_name(thing[1]) and is_book_name(thing[2])


def is_loop(thing, depth):
    """Return whether thing is a for that stands in depth others."""
    if not is_record(thing, "for", 5) or depth >= MOST_LOOPS:
        return False
    _, name, low, high, items = thing
    return is_book_name(name) and is_expr(low) and is_expr(high) and are_items(items, depth + 1)


def is_term(thing):
    """Return whether thing is a term: a rail, a wire, or an item of a bus."""
    if is_record(thing, "rail", 2):
        return is_between(thing[1], 0, 1)
    if is_record(thing, "wire", 2):
        return is_book_name(thing[1])
    return is_record(thing, "item", 3) and is_book_name(thing[1]) and is_expr(thing[2])


def module_named(book, name):
    """Return the first module of that name."""
    require(is_name(name), "name")
    for module in book:
        if module[1] == name:
            return module
    raise NoSuchName(name)


def ports_of(book, name):
    """Return the pairs (name, width) of the module's ports, in order."""
    return tuple((port[2], port[3]) for port in module_named(book, name)[2])


def uses_of(book, name):
    """Return the names of the modules that the module uses, ascending."""
    return tuple(sorted(set(used_by(module_named(book, name)[3]))))


def used_by(items):
    """Return the names of the modules that the items use, also within for."""
    names = []
    for item in items:
        if item[0] == "use":
            names.append(item[1])
        if item[0] == "for":
            names.extend(used_by(item[4]))
    return names
