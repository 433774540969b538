"""Benches straight from the words: reading, codes, followers, searches and papers."""

import itertools
import re

from bads import is_int
from everyohm.kinds import is_flat_name, is_name
from slowformulas import depth_of, first_bad, slow_is_formula, slow_read, slow_worth, some_formula
from slowturns import is_slow_state, slow_readings, slow_turn, slow_turn_judge


def names_of(net):
    return net[0] + tuple(name for name, _ in net[1])


# Benches made at random.

def some_lines(source, most, depth, names):
    """Return lines of a bench; names has what stands in "set", in "want", in "let" and "any", and in formulas."""
    return tuple(some_line(source, depth, names) for _ in range(source.randint(0, most)))


def some_line(source, depth, names):
    feeds, nodes, notes, known = names
    words = ["go"] * 2 + ["set"] * 3 * bool(feeds) + ["want"] + ["let", "any"] * bool(notes) + ["times", "loop"] * bool(depth)
    word = source.choice(words)
    if word in ("set", "want", "let"):
        own = source.choice({"set": feeds, "want": nodes, "let": notes}[word])
        return (word, own, some_formula(source, source.randint(1, 3), known))
    if word == "any":
        return (word, tuple(source.sample(notes, source.randint(1, min(2, len(notes))))))
    if word == "times":
        return (word, source.choice((0, 1, 2, 3)), some_lines(source, 3, depth - 1, names))
    return (word,) if word == "go" else (word, some_lines(source, 3, depth - 1, names))


def some_bench(source, net, notes=("m", "n1"), most=5):
    """Return a bench for a net; names in formulas are those of nodes and of notes that it has."""
    names = (net[0][2:], names_of(net), notes, names_of(net))
    lines = some_lines(source, most, 2, names)
    own = slow_notes(("b", lines))
    return ("b", with_notes(source, lines, own) if own else lines)


def with_notes(source, lines, own):
    """Return the lines with some formulas that name a note."""
    rows = []
    for line in lines:
        if line[0] in ("set", "want", "let") and source.random() < 0.6:
            line = line[:2] + (source.choice((("at", source.choice(own)), ("not", ("at", source.choice(own))))),)
        elif line[0] in ("times", "loop"):
            line = line[:-1] + (with_notes(source, line[-1], own),)
        rows.append(line)
    return tuple(rows)


# What is a bench, and reading its text.

def slow_is_bench(thing):
    return isinstance(thing, tuple) and len(thing) == 2 and is_name(thing[0]) and slow_are_lines(thing[1], 6)


def slow_are_lines(thing, depth):
    return isinstance(thing, tuple) and all(isinstance(line, tuple) and slow_is_line(line, depth) for line in thing)


def slow_is_line(line, depth):
    if not line or not isinstance(line[0], str):
        return False
    word, rest = line[0], line[1:]
    if word == "go":
        return rest == ()
    if word in ("set", "want", "let") and len(rest) == 2:
        return (is_name if word == "let" else is_flat_name)(rest[0]) and slow_is_formula(rest[1])
    if word == "any" and len(rest) == 1:
        return isinstance(rest[0], tuple) and all(is_name(name) for name in rest[0]) and 1 <= len(rest[0]) == len(set(rest[0])) <= 6
    if word == "times" and len(rest) == 2:
        return is_int(rest[0]) and 0 <= rest[0] <= 64 and depth > 0 and slow_are_lines(rest[1], depth - 1)
    return word == "loop" and len(rest) == 1 and depth > 0 and slow_are_lines(rest[0], depth - 1)


class Bad(Exception):
    pass


def slow_read_bench(text):
    """Return a bench, or the name and the fields of the error."""
    rows = [(at, [word for word in re.split(" +", row) if word]) for at, row in enumerate(text.split("\n"))]
    rows = [(at, words) for at, words in rows if words]
    try:
        if not rows:
            raise Bad("InvalidText", (0, 0))
        at, words = rows[0]
        if words[0] != "bench" or len(words) != 2 or not is_name(words[1]):
            raise Bad("InvalidText", (at, 0))
        lines, end = slow_block(rows, 1, 6, at)
        if end < len(rows):
            raise Bad("InvalidText", (rows[end][0], 0))
        return (words[1], lines)
    except Bad as bad:
        return bad.args


def slow_block(rows, at, depth, opened):
    """Return the lines of a block from a row on, and the row behind its end."""
    lines = []
    while at < len(rows):
        number, words = rows[at]
        if words == ["end"]:
            return tuple(lines), at + 1
        if words[0] in ("times", "loop"):
            head = slow_head(words)
            if head is None or depth == 0:
                raise Bad("InvalidText", (number, 0))
            inner, at = slow_block(rows, at + 1, depth - 1, number)
            lines.append(head + (inner,))
            continue
        line = slow_plain(words)
        if line is None:
            raise Bad("InvalidText", (number, 0))
        lines.append(line)
        at += 1
    raise Bad("Unended", (opened,))


def slow_head(words):
    if words == ["loop"]:
        return ("loop",)
    fits = words[0] == "times" and len(words) == 2 and words[1] in [str(number) for number in range(65)]
    return ("times", int(words[1])) if fits else None


def slow_plain(words):
    if words == ["go"]:
        return ("go",)
    if words[0] == "any":
        line = ("any", tuple(words[1:]))
        return line if slow_is_line(line, 0) else None
    if words[0] in ("set", "want", "let") and len(words) == 4 and words[2] == "=" and first_bad(words[3]) < 0:
        formula = slow_read(words[3])
        line = (words[0], words[1], formula)
        return line if depth_of(formula) <= 8 and slow_is_line(line, 0) else None
    return None


# Codes and searches.

def slow_notes(bench):
    found = set()

    def collect(lines):
        for line in lines:
            if line[0] == "let":
                found.add(line[1])
            if line[0] == "any":
                found.update(line[1])
            if line[0] in ("times", "loop"):
                collect(line[-1])
    collect(bench[1])
    return tuple(sorted(found))


def formula_names(formula):
    if formula[0] == "at":
        return [formula[1]]
    return [name for part in formula[1:] if isinstance(part, tuple) for name in formula_names(part)]


def slow_code_error(net, bench):
    """Return the name and the fields of the first error of a code, or None."""
    nodes, notes = names_of(net), slow_notes(bench)
    found = []

    def check(lines):
        for line in lines:
            word = line[0]
            if word == "set" and (line[1] not in net[0] or line[1] in ("low", "high")):
                found.append(("NotFlat", ("feed", line[1])))
            if word == "want" and line[1] not in nodes:
                found.append(("NoSuchName", (line[1],)))
            if word == "let" and line[1] in nodes:
                found.append(("NameTwice", (line[1],)))
            if word == "any":
                found.extend(("NameTwice", (name,)) for name in line[1] if name in nodes)
            if word in ("set", "want", "let"):
                found.extend(("NoSuchName", (name,)) for name in formula_names(line[2]) if name not in nodes + notes)
            if word in ("times", "loop"):
                check(line[-1])
    check(bench[1])
    if found:
        return found[0]
    return ("TooMany", (400,)) if len(slow_code(net, bench)) > 400 else None


def slow_code(net, bench):
    """Return the rows: jumps name their partners by labels first, which then become places."""
    rows = []
    labels = itertools.count()

    def write(lines):
        for line in lines:
            if line[0] == "times":
                for _ in range(line[1]):
                    write(line[2])
            elif line[0] == "loop":
                label = next(labels)
                rows.append(("fork", label))
                write(line[1])
                rows.append(("jump", label))
            else:
                rows.append(line)
    write(bench[1])
    code = []
    for row in rows:
        if row[0] == "fork":
            code.append(("fork", rows.index(("jump", row[1])) + 1))
        elif row[0] == "jump":
            code.append(("jump", rows.index(("fork", row[1]))))
        elif row[0] in ("set", "want"):
            code.append((row[0], names_of(net).index(row[1]), row[2]))
        else:
            code.append(row)
    return tuple(code)


def slow_first(net, bench):
    held = (0, 1) + (2,) * (len(names_of(net)) - 2)
    return (slow_readings(net, held), held), held[:len(net[0])], (2,) * len(slow_notes(bench))


def put(row, at, value):
    return row[:at] + (value,) + row[at + 1:]


def slow_next(net, bench, place, configuration):
    """Return what next_of is to return."""
    code, notes = slow_code(net, bench), slow_notes(bench)
    if place == len(code):
        return ()
    state, feeds, values = configuration
    row = code[place]
    known = tuple(zip(names_of(net), state[1])) + tuple(zip(notes, values))
    if row[0] == "set":
        feeds = put(feeds, row[1], slow_worth(row[2], known))
    elif row[0] == "let":
        values = put(values, notes.index(row[1]), slow_worth(row[2], known))
    elif row[0] == "go":
        state = slow_turn(net, state, feeds)[1][-1]
    elif row[0] == "want":
        wanted, told = slow_worth(row[2], known), state[1][row[1]]
        if wanted != 2 and wanted != told:
            return ("broken" if told != 2 else "unsure", row[1], told, wanted)
    elif row[0] == "any":
        found = []
        for choice in itertools.product((0, 1), repeat=len(row[1])):
            other = values
            for name, value in zip(row[1], choice):
                other = put(other, notes.index(name), value)
            found.append((place + 1, (state, feeds, other), choice))
        return tuple(found)
    elif row[0] == "fork":
        return (row[1], configuration, "out"), (place + 1, configuration, "in")
    elif row[0] == "jump":
        return ((row[1], configuration, None),)
    return ((place + 1, (state, feeds, values), None),)


def slow_run(net, bench, limit):
    """Return what run_bench is to return, ("TooMany", (limit,)) for the error, and how many followers were made."""
    came = [(0, slow_first(net, bench), ())]
    made = 0
    for place, configuration, way in came:
        found = slow_next(net, bench, place, configuration)
        if found and isinstance(found[0], str):
            return (found[0], place, way) + found[1:], made
        made += len(found)
        if made > limit:
            return ("TooMany", (limit,)), made
        for other_place, other, choice in found:
            if (other_place, other) not in [pair[:2] for pair in came]:
                came.append((other_place, other, way + (choice,) if choice is not None else way))
    tables = tuple(
        tuple(other for at, other, _ in came if at == place) for place in range(len(slow_code(net, bench)) + 1))
    return ("kept", tables), made


def slow_judge_bench(net, bench, paper):
    """Return what judge_bench is to return."""
    code = slow_code(net, bench)
    if not isinstance(paper, tuple) or len(paper) != len(code) + 1:
        return False
    for table in paper:
        if not isinstance(table, tuple) or not all(isinstance(pair, tuple) and len(pair) == 2 for pair in table):
            return False
        if not all(is_slow_configuration(net, bench, pair[0]) for pair in table):
            return False
    there = [[pair[0] for pair in table] for table in paper]
    if slow_first(net, bench) not in there[0]:
        return False
    for place, table in enumerate(paper):
        for configuration, proof in table:
            state, feeds, values = configuration
            if place < len(code) and code[place][0] == "go":
                judged = slow_turn_judge(net, state, feeds, proof)
                if judged is None or (judged[0], feeds, values) not in there[place + 1]:
                    return False
                continue
            found = slow_next(net, bench, place, configuration)
            if proof is not None or (found and isinstance(found[0], str)):
                return False
            if not all(other in there[other_place] for other_place, other, _ in found):
                return False
    return True


def is_slow_configuration(net, bench, thing):
    if not isinstance(thing, tuple) or len(thing) != 3 or not isinstance(thing[1], tuple) or not isinstance(thing[2], tuple):
        return False
    state, feeds, values = thing
    if not all(is_int(value) and 0 <= value <= 2 for value in feeds + values):
        return False
    if len(feeds) != len(net[0]) or feeds[:2] != (0, 1) or len(values) != len(slow_notes(bench)):
        return False
    # The feeds in a state are its own, not those of the next turn.
    own = state[1][:len(feeds)] if isinstance(state, tuple) and len(state) == 2 and isinstance(state[1], tuple) else None
    return own is not None and own[:2] == (0, 1) and is_slow_state(net, state, own)
