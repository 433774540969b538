"""Books made at random, for the tests of books and of flattening."""

K, J = ("var", "k"), ("var", "j")
NAMES = ("a", "b", "q", "r", "s1", "num", "y", "a_name_of_16_abc")
EXPRS = (
    ("num", 0), ("num", 3), K, ("plus", K, ("num", 1)), ("times", ("minus", K, J), ("plus", J, ("num", 2))),
    ("minus", ("num", 9), ("minus", K, ("num", 999999))),
)


def some_term(source):
    word = source.choice(("rail", "wire", "wire", "item"))
    if word == "rail":
        return (word, source.randrange(2))
    if word == "wire":
        return (word, source.choice(NAMES))
    return (word, source.choice(NAMES), source.choice(EXPRS))


def some_width(source):
    return source.choice((0, 0, 0, 1, 2, 31, 32))


def some_port(source):
    word = source.choice(("in", "io"))
    size = 0 if word == "in" else source.randint(1, 4)
    return (word, size, source.choice(NAMES), some_width(source))


def some_item(source, depth):
    word = source.choice(("tank", "switch", "switch", "use", "for"))
    if word == "for" and depth < 6:
        items = tuple(some_item(source, depth + 1) for _ in range(source.randrange(3)))
        return (word, source.choice(("k", "j")), source.choice(EXPRS), source.choice(EXPRS), items)
    if word == "switch":
        kind = source.choice(("one", "zero", "tie"))
        gate = None if kind == "tie" else some_term(source)
        return (word, kind, source.randint(1, 6), gate, some_term(source), some_term(source))
    if word == "use":
        terms = tuple(some_term(source) for _ in range(source.randrange(4)))
        return (word, source.choice(("m", "n", "o")), source.choice(NAMES), terms)
    width = some_width(source) if depth == 0 else 0
    return ("tank", source.randint(1, 4), source.choice(NAMES), width)


def some_module(source, name):
    ports = tuple(some_port(source) for _ in range(source.randrange(4)))
    items = tuple(some_item(source, 0) for _ in range(source.randrange(6)))
    return ("module", name, ports, items)


def some_book(source):
    return tuple(some_module(source, name) for name in ("m", "n", "o", "m")[:source.randrange(5)])
