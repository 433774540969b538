"""Points 67, 68 and 69: what a turn can reach, and engines."""

import random

from everyohm.carrying import carried
from everyohm.edits import with_feed, with_size, with_strength, with_switch, with_tank, without_switch
from everyohm.engines import Engine
from everyohm.netnodes import names_of
from everyohm.reaching import reached
from everyohm.starts import is_resting, readings, unknown_start
from everyohm.turning import after, turn
from bads import bads, is_int, is_row
from helpers import BARE, CROSS, DOUBLE, FIGHT, JUNK, LADDER, NETS, STORE, TURNER, Case, junk_but, shape
from nets import likely_net, some_feeds, some_state
from slowranks import slow_lots, tanks_of
from slowturns import slow_reached, slow_turn

BEFORE = ((1, 0, 1, 1), (0, 1, 0, 1, 0))
# Two rows that meet at no switch: a drives p, p drives q; b drives r alone; s has no switch.
ROWS = (("low", "high", "a", "b"), (("p", 1), ("q", 1), ("r", 1), ("s", 2)), (
    ("tie", 1, -1, 1, 4), ("one", 2, 2, 0, 4), ("tie", 1, -1, 1, 5), ("one", 2, 4, 0, 5), ("one", 1, 1, 3, 6), ("one", 1, 6, 0, 1)))


def groups(net):
    return slow_lots(net, [switch[3:] for switch in net[2]])


class ReachedTest(Case):
    def test_small_nets(self):
        state = after(ROWS, unknown_start(ROWS), (0, 1, 0, 0))
        for wanted, feeds in (
            ((), (0, 1, 0, 0)), (((4,), (5,)), (0, 1, 1, 0)), (((4,), (5,)), (0, 1, 2, 0)), (((6,),), (0, 1, 0, 1)),
            (((4,), (5,), (6,)), (0, 1, 1, 2)),
        ):
            self.gives(wanted, reached, net=ROWS, state=state, feeds=feeds)
        # All groups, also those without a switch, if the state is not resting.
        odd = (state[0], (0, 1, 0, 0, 1, 1, 0, 2))
        self.gives(((4,), (5,), (6,), (7,)), reached, net=ROWS, state=odd, feeds=(0, 1, 0, 0))
        self.gives((), reached, net=BARE, state=((), (0, 1)), feeds=(0, 1))
        # A switch between feeds alone reaches nothing, whatever its gate.
        bridge = (("low", "high", "a"), (("p", 1),), (("one", 1, 2, 0, 1), ("one", 1, 3, 2, 1)))
        self.gives((), reached, net=bridge, state=((0, 1), (0, 1, 0, 1)), feeds=(0, 1, 1))
        # The gate counts even if the switch's ends show the same.
        self.gives(((3,),), reached, net=TURNER, state=((1, 0), (0, 1, 0, 1)), feeds=(0, 1, 1))
        self.gives((), reached, net=FIGHT, state=((1, 1), (0, 1, 2)), feeds=(0, 1))
        self.gives(((2,),), reached, net=FIGHT, state=((1, 1), (0, 1, 1)), feeds=(0, 1))

    def test_against_all_sets_of_groups(self):
        source = random.Random(67)
        seen = {True: 0, False: 0}
        some = 0
        for _ in range(400):
            net = likely_net(source, 3, 5, 7)
            state, feeds = some_state(source, net), some_feeds(source, net)
            if source.random() < 0.7:
                state = after(net, state, some_feeds(source, net))
            resting = is_resting(net, state)
            seen[resting] += 1
            wanted = slow_reached(net, state, feeds)
            some += resting and () != wanted != groups(net)
            self.gives(wanted, reached, net=net, state=state, feeds=feeds)
            if resting:
                self.check_others_stay(net, state, feeds, wanted)
        self.assertGreater(min(seen.values()), 80)
        self.assertGreater(some, 40)

    def check_others_stay(self, net, state, feeds, found):
        """Point 69: outside of what is reached tanks stay, throughout the turn."""
        first, states = turn(net, state, feeds)
        for tank in tanks_of(net):
            if not any(tank in group for group in found):
                self.assertEqual({one[1][tank] for one in (first,) + states}, {state[1][tank]})
        self.same(reached(net, state, state[1][:len(net[0])]), ())
        self.same(turn(net, state, state[1][:len(net[0])]), (state, (state,)))

    def test_wrong_arguments(self):
        for net in (TURNER, CROSS, LADDER):
            good = {"net": net, "state": unknown_start(net), "feeds": (0, 1) + (2,) * (len(net[0]) - 2)}
            self.refuses(reached, good, bads(net), ("net",))


def some_edit(source, net):
    """Return a changed net and the places of its switches."""
    names = names_of(net)
    switches = range(len(net[2]))
    kind = source.randrange(7)
    if kind == 0 and len(net[0]) < 5:
        return with_feed(net, "new" + str(len(names)))
    if kind == 1 and len(net[1]) < 6:
        return with_tank(net, "new" + str(len(names)), source.randint(1, 4))
    if kind == 2 and switches:
        return without_switch(net, source.choice(switches))
    if kind == 3 and switches:
        return with_strength(net, source.choice(switches), source.randint(1, 6))
    if kind == 4 and net[1]:
        return with_size(net, source.choice(net[1])[0], source.randint(1, 4))
    if len(net[2]) > 9:
        return net, tuple(source.sample(list(switches), len(switches)))
    word = source.choice(("one", "zero", "tie"))
    left, right = source.sample(names, 2)
    return with_switch(net, word, source.randint(1, 3), None if word == "tie" else source.choice(names), left, right)


class EnginesTest(Case):
    def kept(self, engine):
        return shape((engine.net(), engine.state(), engine.worked()))

    def test_examples(self):
        engine = Engine(DOUBLE, BEFORE)
        self.same(engine.turn((0, 1, 1))[1], ((1, 1, 1, 0), (0, 1, 1, 0, 1)))
        self.same(engine.worked(), ((3,), (4,)))

    def test_what_is_kept_at_first(self):
        for net in NETS:
            state = some_state(random.Random(68), net)
            for engine in (Engine(net, state), Engine(state=state, net=net)):
                self.same((engine.net(), engine.state(), engine.worked()), (net, state, ()))

    def check_turn(self, engine, feeds, by_name):
        """Make a turn, and check it against one worked out anew."""
        net, state = engine.net(), engine.state()
        first, states = slow_turn(net, state, feeds)
        self.same(engine.turn(feeds=feeds) if by_name else engine.turn(feeds), (first, states[-1]))
        self.same((engine.net(), engine.state()), (net, states[-1]))
        worked = engine.worked()
        self.same(worked, tuple(sorted(worked)))
        self.assertLessEqual(set(worked), set(slow_reached(net, state, feeds)))
        for group in groups(net):
            values = {tuple(one[tank] for tank in group) for one in (state[1], first[1], states[-1][1])}
            if len(values) > 1:
                self.assertIn(group, worked)

    def check_change(self, engine, other, places, by_name):
        """Make a change, and check what is kept then."""
        wanted = carried(engine.net(), engine.state(), other, places)
        done = engine.change(places=places, net=other) if by_name else engine.change(other, places)
        self.same((done, engine.net(), engine.state(), engine.worked()), (None, other, wanted, ()))

    def test_turns_and_changes(self):
        source = random.Random(681)
        for _ in range(60):
            net = likely_net(source, 2, 4, 6)
            engine = Engine(net, some_state(source, net))
            for _ in range(source.randint(3, 10)):
                if source.random() < 0.3:
                    self.check_change(engine, *some_edit(source, engine.net()), source.random() < 0.5)
                else:
                    self.check_turn(engine, some_feeds(source, engine.net()), source.random() < 0.5)

    def test_worked(self):
        engine = Engine(ROWS, after(ROWS, unknown_start(ROWS), (0, 1, 0, 0)))
        for wanted, feeds in (((), (0, 1, 0, 0)), (((4,), (5,)), (0, 1, 1, 0)), ((), (0, 1, 1, 0)), (((6,),), (0, 1, 1, 1))):
            engine.turn(feeds)
            self.same(engine.worked(), wanted)
        engine.change(ROWS, tuple(range(len(ROWS[2]))))
        self.same(engine.worked(), ())

    def test_a_refused_call_changes_nothing(self):
        for net in (TURNER, CROSS, DOUBLE):
            engine = Engine(net, unknown_start(net))
            engine.turn((0, 1) + (1,) * (len(net[0]) - 2))
            before = self.kept(engine)
            self.refuses(engine.turn, {"feeds": engine.state()[1][:len(net[0])]}, bads(net))
            places = tuple(range(len(net[2])))
            bad = {
                "net": [thing for thing in JUNK if thing != BARE] + [list(net), net[:2], net + ((),), (net[0], net[1], list(net[2]))],
                "places": junk_but(lambda thing: is_row(thing, len(places), is_int) and sorted(thing) == list(places)) + [
                    list(places), places[:-1], places + (-1,), places[:-1] + (-2,), places[:-1] + (len(places),), places[:-1] + (False,),
                    (0,) + places[:-1], places[:-1] + (None,), (0,) * len(places)],
            }
            self.refuses(engine.change, {"net": net, "places": places}, bad)
            self.assertEqual(self.kept(engine), before)

    def test_wrong_arguments(self):
        for net in (TURNER, CROSS, BARE):
            bad = dict(bads(net), net=[thing for thing in JUNK if thing != BARE] + [list(net), net[:2], (net[0], net[1], list(net[2]))])
            self.refuses(Engine, {"net": net, "state": unknown_start(net)}, bad)

    def test_two_engines_beside_one_another(self):
        one, other = Engine(DOUBLE, BEFORE), Engine(DOUBLE, BEFORE)
        one.turn((0, 1, 1))
        self.same((other.state(), other.worked()), (BEFORE, ()))
        other.change(TURNER, (0, 1, -1, -1))
        self.same((one.net(), one.worked()), (DOUBLE, ((3,), (4,))))
        self.same(other.state(), ((1, 0), (0, 1, 0, 0)))
        one.turn((0, 1, 0))
        self.same((one.state(), other.state()), (BEFORE, ((1, 0), (0, 1, 0, 0))))

    def test_the_switches_are_carried_by_their_places(self):
        engine = Engine(STORE, ((1,), (0, 1, 1, 0, 0)))
        engine.change(STORE, (-1,))
        self.same(engine.state(), ((0,), (0, 1, 1, 0, 0)))
        self.same(readings(STORE, (0, 1, 1, 0, 0)), (0,))
