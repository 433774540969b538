"""The texts of benches."""

from everyohm.benchreading import is_bench
from everyohm.checks import require
from everyohm.formulatexts import text_of_formula
from everyohm.integertexts import integer_text

INDENT = "  "


def bench_text(bench):
    """Return the lines of a bench."""
    require(is_bench(bench), "bench")
    name, lines = bench
    return "\n".join(["bench " + name] + indented(lines) + ["end"])


def indented(lines):
    """Return the texts of the lines of a block, each behind one more indent."""
    return [INDENT + row for line in lines for row in texts_of_line(line)]


def texts_of_line(line):
    """Return the text of a line, or those of a block's lines, without indent."""
    word = line[0]
    if word == "loop":
        return [word] + indented(line[1]) + ["end"]
    if word == "times":
        return ["times " + integer_text(line[1])] + indented(line[2]) + ["end"]
    if word == "any":
        return [" ".join((word,) + line[1])]
    if word == "go":
        return [word]
    return [f"{word} {line[1]} = {text_of_formula(line[2])}"]
