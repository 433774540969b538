"""Papers of benches that are kept, and what they need."""

from everyohm.benchreading import is_bench
from everyohm.benchsteps import BenchSteps
from everyohm.checks import require
from everyohm.searching import is_configuration, is_limit, searched
from everyohm.turnjudge import turn_judged
from everyohm.turnpapers import turn_paper_of


def bench_paper(net, bench, limit):
    """Return for each place the configurations that come there, with papers of their turns."""
    require(is_bench(bench), "bench")
    require(is_limit(limit), "limit")
    steps = BenchSteps(net, bench)
    result = searched(steps, limit)
    require(result[0] == "kept", "bench")
    return tuple(
        tuple((configuration, paper_for(steps, place, configuration)) for configuration in table)
        for place, table in enumerate(result[1])
    )


def paper_for(steps, place, configuration):
    """Return the paper of the turn that a configuration makes at a place, None if it makes none."""
    state, feeds, _ = configuration
    return turn_paper_of(steps.net, state, feeds) if steps.word(place) == "go" else None


def judge_bench(net, bench, paper):
    """Return whether the paper shows that the bench is kept."""
    require(is_bench(bench), "bench")
    steps = BenchSteps(net, bench)
    if not are_tables(steps, paper):
        return False
    rows = [(place, pair) for place, table in enumerate(paper) for pair in table]
    present = {(place, configuration): True for place, (configuration, _) in rows}
    if (0, steps.first()) not in present:
        return False
    return all(is_followed(steps, place, pair, present) for place, pair in rows)


def are_tables(steps, thing):
    """Return whether thing has, for each place, a tuple of pairs of a configuration and anything else."""
    if not isinstance(thing, tuple) or len(thing) != len(steps.code) + 1:
        return False
    return all(isinstance(table, tuple) and all(is_pair(steps, pair) for pair in table) for table in thing)


def is_pair(steps, thing):
    """Return whether thing is a pair of a configuration and anything else."""
    if not isinstance(thing, tuple) or len(thing) != 2:
        return False
    return is_configuration(steps.net, steps.notes, thing[0])


def is_followed(steps, place, pair, present):
    """Return whether a pair's paper is taken, no wish fails, and all followers are present."""
    configuration, paper = pair
    if steps.fault(place, configuration) is not None:
        return False
    if steps.word(place) != "go":
        followers = steps.followers(place, configuration)
        return paper is None and all((other_place, other) in present for other_place, other, _ in followers)
    state, feeds, values = configuration
    judged = turn_judged(steps.net, state, feeds, paper)
    return judged is not None and (place + 1, (judged[0], feeds, values)) in present
