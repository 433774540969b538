"""A slow but plain way to tell whether words are, or begin, a line or an expression.

A rule is a function of words and a place. It returns the set of places behind
what it may stand for there, and whether it ran out of words on some way.
"""

import functools

RESERVED = ("module", "end", "in", "io", "tank", "one", "zero", "tie", "use", "for", "to", "low", "high")


def word(fits):
    """Return the rule for one word."""
    def rule(words, at):
        if at == len(words):
            return set(), True
        return ({at + 1} if fits(words[at]) else set()), False
    return rule


def just(text):
    return word(lambda other: other == text)


def row(*rules):
    """Return the rule for some rules one behind the other."""
    def rule(words, at):
        ends, out = {at}, False
        for part in rules:
            found = [part(words, end) for end in ends]
            ends = set().union(*[one for one, _ in found])
            out = out or any(other for _, other in found)
        return ends, out
    return rule


def either(*rules):
    def rule(words, at):
        found = [part(words, at) for part in rules]
        return set().union(*[one for one, _ in found]), any(other for _, other in found)
    return rule


def many(part):
    """Return the rule for a rule any number of times."""
    def rule(words, at):
        ends, out, new = {at}, False, {at}
        while new:
            found = [part(words, end) for end in new]
            out = out or any(other for _, other in found)
            new = set().union(*[one for one, _ in found]) - ends
            ends |= new
        return ends, out
    return rule


def is_name(text):
    first = text[:1]
    signs = set(text) <= set("abcdefghijklmnopqrstuvwxyz0123456789_")
    return signs and first.isalpha() and len(text) <= 16 and text != "x" and text not in RESERVED


def is_number(text, least=0, most=999999):
    return text.isdigit() and len(text) <= 6 and text == str(int(text)) and least <= int(text) <= most


def expr(words, at):
    return EXPR(words, at)


NAME = word(is_name)
SIZE = word(lambda text: is_number(text, 1, 4))
STRENGTH = word(lambda text: is_number(text, 1, 6))
WIDTH = word(lambda text: is_number(text, 1, 32))
ATOM = either(word(is_number), NAME, row(just("("), expr, just(")")))
PART = row(ATOM, many(row(just("*"), ATOM)))
EXPR = row(PART, many(row(either(just("+"), just("-")), PART)))
WIRE = either(NAME, row(NAME, just("["), WIDTH, just("]")))
WIRES = row(WIRE, many(WIRE))
TERM = either(just("low"), just("high"), NAME, row(NAME, just("["), expr, just("]")))
LINE = either(
    row(),
    row(just("module"), NAME),
    just("end"),
    row(just("in"), WIRES),
    row(just("io"), SIZE, WIRES),
    row(just("tank"), SIZE, WIRES),
    row(either(just("one"), just("zero")), STRENGTH, TERM, TERM, TERM),
    row(just("tie"), STRENGTH, TERM, TERM),
    row(just("use"), NAME, NAME, many(TERM)),
    row(just("for"), NAME, expr, just("to"), expr),
)


@functools.cache
def is_whole(rule, words):
    """Return whether the words are what the rule stands for."""
    return len(words) in rule(words, 0)[0]


@functools.cache
def begins(rule, words):
    """Return whether the words begin something that the rule stands for."""
    ends, out = rule(words, 0)
    return out or len(words) in ends


@functools.cache
def first_bad(rule, words):
    """Return the place of the first bad word, the number of words, or -1."""
    if is_whole(rule, words):
        return -1
    for at in range(len(words)):
        if not begins(rule, words[:at + 1]):
            return at
    return len(words)


def all_begun(rule, alphabet, most):
    """Return all that begins something, of words of an alphabet, up to a length."""
    rows, last = [()], [()]
    for _ in range(most):
        last = [old + (new,) for old in last for new in alphabet]
        last = [words for words in last if begins(rule, words)]
        rows.extend(last)
    return rows
