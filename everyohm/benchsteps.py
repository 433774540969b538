"""Single steps of benches: what follows a row of a code."""

from everyohm.codes import code_by, notes_in
from everyohm.edits import replaced
from everyohm.formulas import worth_with
from everyohm.netnodes import names_of
from everyohm.starts import unknown_start
from everyohm.turning import state_after


class BenchSteps:
    """A net, and the code and the notes of a bench for it."""

    def __init__(self, net, bench):
        self.net = net
        self.code = code_by(net, bench)
        self.notes = notes_in(bench)

    def word(self, place):
        """Return the word of the row at a place, an empty one at the end."""
        return self.code[place][0] if place < len(self.code) else ""

    def first(self):
        """Return the configuration with which the bench begins."""
        feeds = (0, 1) + (2,) * (len(self.net[0]) - 2)
        return unknown_start(self.net), feeds, (2,) * len(self.notes)

    def fault(self, place, configuration):
        """Return how the wish at a place fails: a word, the node, what it holds, the worth; None if none does."""
        if self.word(place) != "want":
            return None
        _, node, formula = self.code[place]
        wanted = self.worth(formula, configuration)
        told = configuration[0][1][node]
        if wanted in (2, told):
            return None
        return ("unsure" if told == 2 else "broken", node, told, wanted)

    def worth(self, formula, configuration):
        """Return the worth of a formula by what the state holds and the notes."""
        (_, held), _, values = configuration
        table = dict(zip(names_of(self.net) + self.notes, held + values))
        return worth_with(formula, table)

    def followers(self, place, configuration):
        """Return the followers of a configuration at a place; a wish there must not fail."""
        word = self.word(place)
        if word == "":
            return ()
        row = self.code[place]
        if word == "any":
            return self.chosen(row[1], place, configuration)
        if word == "fork":
            return (row[1], configuration, "out"), (place + 1, configuration, "in")
        if word == "jump":
            return ((row[1], configuration, None),)
        return ((place + 1, self.stepped(row, configuration), None),)

    def chosen(self, names, place, configuration):
        """Return a follower for each way to give known values to some notes."""
        state, feeds, values = configuration
        choices = [()]
        for _ in names:
            choices = [choice + (value,) for choice in choices for value in (0, 1)]
        rows = []
        for choice in choices:
            other = values
            for name, value in zip(names, choice):
                other = self.with_note(other, name, value)
            rows.append((place + 1, (state, feeds, other), choice))
        return tuple(rows)

    def with_note(self, values, name, value):
        """Return the values of the notes with another one for a name."""
        return replaced(values, self.notes.index(name), value)

    def stepped(self, row, configuration):
        """Return the configuration behind a row that has just one."""
        state, feeds, values = configuration
        if row[0] == "go":
            return state_after(self.net, state, feeds), feeds, values
        if row[0] == "set":
            return state, replaced(feeds, row[1], self.worth(row[2], configuration)), values
        if row[0] == "let":
            return state, feeds, self.with_note(values, row[1], self.worth(row[2], configuration))
        return configuration
