"""Trails: what was found in a search, and by which steps."""


class Trail:
    """What came, each once, in its sequence, and the step by which each first came."""

    def __init__(self, first):
        self.came = [first]
        self.steps = {first: (-1, None)}

    def keep(self, thing, at, step):
        """Keep a thing that came by a step from what stands at a place, unless it came before."""
        if thing not in self.steps:
            self.steps[thing] = (at, step)
            self.came.append(thing)

    def steps_to(self, at):
        """Return the steps on the way to what stands at a place."""
        steps = []
        before, step = self.steps[self.came[at]]
        while before >= 0:
            steps.append(step)
            before, step = self.steps[self.came[before]]
        return tuple(reversed(steps))
