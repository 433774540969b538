"""The texts of books."""

from everyohm.exprtexts import text_of
from everyohm.integertexts import integer_text

RAILS = ("low", "high")
INDENT = "  "


def book_text(book):
    """Return a line for each module, port, item and end."""
    lines = []
    for module in book:
        lines.extend(module_lines(module))
    return "\n".join(lines)


def module_lines(module):
    """Return the lines of a module."""
    _, name, ports, items = module
    lines = ["module " + name]
    for port in ports:
        lines.append(INDENT + port_line(port))
    for item in items:
        lines.extend(item_lines(item, INDENT))
    lines.append("end")
    return lines


def port_line(port):
    """Return the line of a port."""
    word, size, name, width = port
    if word == "in":
        return "in " + wire_text(name, width)
    return f"io {size} {wire_text(name, width)}"


def item_lines(item, indent):
    """Return the lines of an item, each behind its indent."""
    if item[0] == "for":
        return loop_lines(item, indent)
    if item[0] == "tank":
        return [f"{indent}tank {item[1]} {wire_text(item[2], item[3])}"]
    if item[0] == "switch":
        return [indent + switch_line(item)]
    words = ["use", item[1], item[2]] + [term_text(term) for term in item[3]]
    return [indent + " ".join(words)]


def loop_lines(loop, indent):
    """Return the lines of a for, each behind its indent."""
    _, name, low, high, items = loop
    lines = [f"{indent}for {name} {text_of(low)} to {text_of(high)}"]
    for item in items:
        lines.extend(item_lines(item, indent + INDENT))
    lines.append(indent + "end")
    return lines


def switch_line(switch):
    """Return the line of a switch, without indent."""
    _, kind, strength, gate, left, right = switch
    terms = (left, right) if gate is None else (gate, left, right)
    words = [kind, integer_text(strength)] + [term_text(term) for term in terms]
    return " ".join(words)


def wire_text(name, width):
    """Return a name, with its width in brackets if it is a bus."""
    return f"{name}[{width}]" if width > 0 else name


def term_text(term):
    """Return the text of a term."""
    if term[0] == "rail":
        return RAILS[term[1]]
    if term[0] == "wire":
        return term[1]
    return f"{term[1]}[{text_of(term[2])}]"
