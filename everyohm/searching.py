"""Searching through all that a bench can do."""

from everyohm.benchreading import MOST_NOTES, is_bench
from everyohm.benchsteps import BenchSteps
from everyohm.checks import require
from everyohm.codes import notes_in
from everyohm.errors import NotUsable, TooMany
from everyohm.kinds import is_integer, is_known, is_number, is_values
from everyohm.statekinds import is_feeds, is_state
from everyohm.trails import Trail


def first_of(net, bench):
    """Return the configuration with which a bench begins."""
    require(is_bench(bench), "bench")
    return BenchSteps(net, bench).first()


def next_of(net, bench, place, configuration):
    """Return the followers of a configuration at a place, or how the wish there fails."""
    require(is_bench(bench), "bench")
    require(is_number(place), "place")
    require(is_configuration(net, notes_in(bench), configuration), "configuration")
    steps = BenchSteps(net, bench)
    require(place <= len(steps.code), "place")
    fault = steps.fault(place, configuration)
    return steps.followers(place, configuration) if fault is None else fault


def is_configuration(net, notes, thing):
    """Return whether thing is a configuration of the net, with a value for each of the notes."""
    if not isinstance(thing, tuple) or len(thing) != 3:
        return False
    state, feeds, values = thing
    if not is_state(net, state) or not is_feeds(net, feeds):
        return False
    return is_values(values) and len(values) == len(notes)


def is_limit(thing):
    """Return whether thing can be a limit."""
    return is_integer(thing) and thing >= 1


def run_bench(net, bench, limit):
    """Return how the first wish fails, or for each place the configurations that come there."""
    require(is_bench(bench), "bench")
    require(is_limit(limit), "limit")
    return searched(BenchSteps(net, bench), limit)


def searched(steps, limit):
    """Return what run_bench returns."""
    trail = Trail((0, steps.first()))
    made = 0
    at = 0
    while at < len(trail.came):
        place, configuration = trail.came[at]
        fault = steps.fault(place, configuration)
        if fault is not None:
            choices = [choice for choice in trail.steps_to(at) if choice is not None]
            return failed(fault, place, tuple(choices))
        followers = steps.followers(place, configuration)
        made += len(followers)
        if made > limit:
            raise TooMany(limit)
        for other_place, other, choice in followers:
            trail.keep((other_place, other), at, choice)
        at += 1
    return ("kept", tables_by_place(trail.came, len(steps.code)))


def failed(fault, place, choices):
    """Return what is told of a wish that fails."""
    word, node, told, wanted = fault
    return (word, place, choices, node, told, wanted)


def tables_by_place(came, end):
    """Return for each place, the end too, the configurations that came there."""
    tables = [[] for _ in range(end + 1)]
    for place, configuration in came:
        tables[place].append(configuration)
    return tuple(tuple(table) for table in tables)


def replay(net, bench, choices):
    """Return where choices lead: to a place with a configuration, or to a wish that fails."""
    require(is_bench(bench), "bench")
    require(are_choices(choices), "choices")
    steps = BenchSteps(net, bench)
    place, configuration = 0, steps.first()
    used = 0
    fault = None
    while fault is None and place < len(steps.code):
        fault = steps.fault(place, configuration)
        if fault is None:
            is_due = steps.word(place) in ("any", "fork")
            if is_due and used == len(choices):
                return (place, configuration)
            choice = choices[used] if is_due else None
            place, configuration = follower_by(steps, place, configuration, choice)
            used += 1 if is_due else 0
    require(used == len(choices), "choices")
    return (place, configuration) if fault is None else failed(fault, place, choices)


def follower_by(steps, place, configuration, choice):
    """Return the place and the configuration to which a choice leads."""
    for other_place, other, other_choice in steps.followers(place, configuration):
        if other_choice == choice:
            return other_place, other
    raise NotUsable("choices", -1)


def are_choices(thing):
    """Return whether thing is a tuple of choices."""
    return isinstance(thing, tuple) and all(is_choice(part) for part in thing)


def is_choice(thing):
    """Return whether thing is a choice of some row."""
    if isinstance(thing, str):
        return thing in ("out", "in")
    if not isinstance(thing, tuple) or not 1 <= len(thing) <= MOST_NOTES:
        return False
    return all(is_known(value) for value in thing)
