"""Codes: benches as rows, with jumps in the place of blocks."""

from everyohm.benchreading import is_bench
from everyohm.checks import require
from everyohm.errors import NameTwice, NoSuchName, NotFlat, TooMany
from everyohm.formulas import names_in
from everyohm.netnodes import names_of

MOST_ROWS = 400


def notes_of(bench):
    """Return the names of all notes of a bench, ascending."""
    require(is_bench(bench), "bench")
    return notes_in(bench)


def notes_in(bench):
    """Return what notes_of returns, for what is known to be a bench."""
    names = []
    for line in all_lines(bench[1]):
        names.extend(own_notes(line))
    return tuple(sorted(set(names)))


def own_notes(line):
    """Return the notes that get a value by a line itself."""
    if line[0] == "any":
        return line[1]
    return line[1:2] if line[0] == "let" else ()


def block_of(line):
    """Return the lines in a block, none for any other line."""
    return line[-1] if line[0] in ("times", "loop") else ()


def all_lines(lines):
    """Return the lines, each before those in it."""
    found = []
    for line in lines:
        found.append(line)
        found.extend(all_lines(block_of(line)))
    return found


def code_of(net, bench):
    """Return the rows of a bench for a net."""
    require(is_bench(bench), "bench")
    return code_by(net, bench)


def code_by(net, bench):
    """Return what code_of returns, for what is known to be a bench."""
    names = names_of(net)
    known = names + notes_in(bench)
    for line in all_lines(bench[1]):
        require_own_names(net, line)
        if line[0] in ("set", "want", "let"):
            require_names(names_in(line[2]), known)
    if count_of_rows(bench[1]) > MOST_ROWS:
        raise TooMany(MOST_ROWS)
    return tuple(rows_for(names, bench[1], 0))


def require_own_names(net, line):
    """Raise an error for the first own name of a line that cannot stand there."""
    if line[0] == "set" and line[1] not in net[0][2:]:
        raise NotFlat("feed", line[1])
    if line[0] == "want":
        require_names(line[1:2], names_of(net))
    for name in own_notes(line):
        if name in names_of(net):
            raise NameTwice(name)


def require_names(names, known):
    """Raise NoSuchName for the first of the names that is not known."""
    for name in names:
        if name not in known:
            raise NoSuchName(name)


def count_of_rows(lines):
    """Return how many rows the lines have, without making them."""
    return sum(count_of_line(line) for line in lines)


def count_of_line(line):
    """Return how many rows a line has."""
    if line[0] == "times":
        return line[1] * count_of_rows(line[2])
    return 2 + count_of_rows(line[1]) if line[0] == "loop" else 1


def rows_for(names, lines, start):
    """Return the rows of lines of which the first stands at the place start."""
    rows = []
    for line in lines:
        rows.extend(rows_of_line(names, line, start + len(rows)))
    return rows


def rows_of_line(names, line, place):
    """Return the rows of a line that begins at a place."""
    word = line[0]
    if word == "times":
        # Many passes through nothing would only take long.
        passes = line[1] if count_of_rows(line[2]) > 0 else 0
        return rows_for(names, line[2] * passes, place)
    if word == "loop":
        rows = rows_for(names, line[1], place + 1)
        return [("fork", place + len(rows) + 2)] + rows + [("jump", place)]
    if word in ("set", "want"):
        return [(word, names.index(line[1]), line[2])]
    return [line]
