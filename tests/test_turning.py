"""Points 62 and 11 (G2, G5, G6): turns, spreads, chains, calms."""

import random

from everyohm.falling import can_fall, fallen
from everyohm.netnodes import gate_tanks
from everyohm.raising import can_raise, raised
from everyohm.responses import response
from everyohm.starts import is_even, is_resting, readings, unknown_start
from everyohm.turning import after, after_all, begun, chain, spread, turn
from bads import bads
from helpers import BARE, CROSS, DOUBLE, FIGHT, JUNK, LADDER, STORE, TURNER, Case
from nets import known_state, likely_net, some_feeds, some_state
from slowturns import above, join_all, slow_begun, slow_readings, slow_turn, states_between
from slowranks import slow_response

BEFORE = ((1, 0, 1, 1), (0, 1, 0, 1, 0))


def some_turn(source, feeds=2, tanks=4, switches=6):
    """Return a net, a state (often resting or known) and feed values."""
    net = likely_net(source, feeds, tanks, switches)
    kind = source.randrange(4)
    state = known_state(source, net) if kind == 1 else some_state(source, net)
    if kind == 2:
        state = after(net, state, state[1][:len(net[0])])
    if kind == 3:
        state = unknown_start(net)
    return net, state, some_feeds(source, net)


def gated_row(many):
    """Return a row of inverters, each with a tie from high and a strong switch from low."""
    switches = []
    for at in range(many):
        gate = 2 + at
        switches += [("tie", 1, -1, 1, 3 + at), ("one", 2, gate, 0, 3 + at)]
    return (("low", "high", "a"), tuple((f"t{at}", 1) for at in range(many)), tuple(switches))


class TurningTest(Case):
    def test_examples(self):
        self.same(turn(DOUBLE, BEFORE, (0, 1, 1))[0], ((1, 2, 1, 2), (0, 1, 1, 2, 2)))
        self.same(turn(DOUBLE, BEFORE, (0, 1, 1))[1][1:], (
            ((1, 1, 1, 2), (0, 1, 1, 0, 2)), ((1, 1, 1, 0), (0, 1, 1, 0, 1))))

    def test_the_functions_agree(self):
        source = random.Random(62)
        for _ in range(300):
            net, state, feeds = some_turn(source)
            first, states = slow_turn(net, state, feeds)
            question = {"net": net, "state": state, "feeds": feeds}
            self.gives(slow_begun(state, feeds), begun, **question)
            self.gives(first, spread, **question)
            self.gives(states, chain, net=net, state=first)
            self.gives((first, states), turn, **question)
            self.gives(states[-1], after, **question)
            self.same(states[0], first)

    def test_edges(self):
        self.gives((((), (0, 1)), (((), (0, 1)),)), turn, net=BARE, state=((), (0, 1)), feeds=(0, 1))
        no_tanks = (("low", "high", "a"), (), (("one", 1, 2, 0, 1), ("zero", 1, 2, 0, 2)))
        state = ((0, 1), (0, 1, 0))
        self.gives(((0, 1), (0, 1, 1)), begun, net=no_tanks, state=state, feeds=(0, 1, 1))
        self.gives(
            (((2, 2), (0, 1, 1)), (((2, 2), (0, 1, 1)), ((1, 0), (0, 1, 1)))), turn, net=no_tanks, state=state, feeds=(0, 1, 1))
        self.gives(((2, 2), (0, 1, 2)), after, net=no_tanks, state=state, feeds=(0, 1, 2))
        lone = (("low", "high", "a"), (("p", 1), ("q", 2)), ())
        for value in (0, 1, 2):
            state = ((), (0, 1, 2, value, 1))
            resting = ((), (0, 1, 0, value, 1))
            self.gives((resting, (resting,)), turn, net=lone, state=state, feeds=(0, 1, 0))
            # What the feed was before counts for nothing, but the position that it left does.
            self.gives(((2,), (0, 1, 0, 0, 2)), spread, net=STORE, state=((1,), (0, 1, value, 1, 1)), feeds=(0, 1, 0, 0))
            self.gives(((0,), (0, 1, 0, 0, 2)), after, net=STORE, state=((1,), (0, 1, value, 1, 1)), feeds=(0, 1, 0, 0))
        self.gives(((1, 1), (0, 1, 2)), after, net=FIGHT, state=((1, 1), (0, 1, 1)), feeds=(0, 1))

    def test_depths(self):
        for many in range(1, 8):
            net = gated_row(many)
            state = after(net, unknown_start(net), (0, 1, 0))
            self.assertEqual(state[1][3:], tuple((at + 1) % 2 for at in range(many)))
            first, states = turn(net, state, (0, 1, 1))
            self.assertEqual(first[1][3:], (2,) * many)
            self.assertEqual(len(states) - 1, many)
            self.assertEqual(states[-1][1][3:], tuple(at % 2 for at in range(many)))
            self.assertEqual(len(turn(net, state, (0, 1, 0))[1]), 1)

    def test_a_tank_that_turns_itself(self):
        # q opens what holds it, so it is never settled.
        net = (("low", "high"), (("q", 1),), (("tie", 1, -1, 1, 2), ("one", 2, 2, 0, 2)))
        for state in (((1, 0), (0, 1, 0)), ((1, 1), (0, 1, 1))):
            self.gives((((1, 2), (0, 1, 2)), (((1, 2), (0, 1, 2)),)), turn, net=net, state=state, feeds=(0, 1))

    def test_sequences(self):
        source = random.Random(621)
        for _ in range(80):
            net, state, _ = some_turn(source)
            sequence = tuple(some_feeds(source, net) for _ in range(source.randrange(5)))
            wanted = state
            for feeds in sequence:
                wanted = slow_turn(net, wanted, feeds)[1][-1]
            self.gives(wanted, after_all, net=net, state=state, sequence=sequence)
        self.gives(((1, 2), (0, 1, 1, 0)), after_all, net=TURNER, state=((1, 2), (0, 1, 1, 0)), sequence=())
        forty = ((0, 1, 1), (0, 1, 0)) * 20
        self.gives(((1, 0), (0, 1, 0, 1)), after_all, net=TURNER, state=unknown_start(TURNER), sequence=forty)

    def test_chain_needs_a_spread(self):
        source = random.Random(622)
        seen = set()
        for _ in range(400):
            net = likely_net(source, 1, 2, 3)
            state = some_state(source, net)
            fits = above(state, (slow_readings(net, state[1]), slow_response(net, *state)))
            seen.add(fits)
            if fits:
                self.same(chain(net, state)[0], state)
            else:
                self.fails("NotUsable", ("state", -1), chain, net, state)
        self.assertEqual(seen, {True, False})
        self.fails("NotUsable", ("state", -1), chain, TURNER, ((1, 1), (0, 1, 0, 0)))
        self.fails("NotUsable", ("state", -1), chain, TURNER, ((1, 0), (0, 1, 0, 0)))
        self.gives((((1, 0), (0, 1, 0, 1)),), chain, net=TURNER, state=((1, 0), (0, 1, 0, 1)))

    def test_resting_states_stay(self):
        source = random.Random(623)
        for _ in range(200):
            net, state, feeds = some_turn(source)
            state = after(net, state, feeds)
            self.same(is_resting(net, state), True)
            self.same(turn(net, state, feeds), (state, (state,)))

    def test_even_states_stay_even(self):
        source = random.Random(624)
        for _ in range(200):
            net, state, feeds = some_turn(source)
            state = (readings(net, state[1]), state[1])
            for one in turn(net, state, feeds)[1]:
                self.same(is_even(net, one), True)

    def test_wrong_arguments(self):
        for net in (TURNER, CROSS, LADDER, BARE):
            state = unknown_start(net)
            feeds = (0, 1) + (2,) * (len(net[0]) - 2)
            for function in (begun, spread, turn, after):
                self.refuses(function, {"net": net, "state": state, "feeds": feeds}, bads(net), ("net",))
            bad = dict(bads(net), sequence=[thing for thing in JUNK if thing not in ((), (feeds,))] + [
                [feeds], (feeds, None), (feeds[:-1],), (feeds, feeds + (0,)), feeds, (list(feeds),), ((0, True) + feeds[2:],), [],
            ])
            self.refuses(after_all, {"net": net, "state": state, "sequence": (feeds,)}, bad, ("net",))
            self.refuses(chain, {"net": net, "state": spread(net, state, feeds)}, bad, ("net",))


class GuaranteesTest(Case):
    def test_g2_more_is_known(self):
        source = random.Random(2)
        for _ in range(400):
            net, state, feeds = some_turn(source)
            less = lambda values, first: values[:first] + tuple(
                source.randrange(2) if value == 2 and source.random() < 0.5 else value for value in values[first:])
            known = (less(state[0], 0), less(state[1], 2))
            first, states = turn(net, state, feeds)
            other, others = turn(net, known, less(feeds, 2))
            self.assertTrue(above(first, other))
            for at in range(max(len(states), len(others))):
                self.assertTrue(above(states[min(at, len(states) - 1)], others[min(at, len(others) - 1)]))

    def test_g5_least_and_greatest(self):
        source = random.Random(5)
        for _ in range(150):
            net, state, feeds = some_turn(source, 1, 2, 3)
            start = slow_begun(state, feeds)
            first, states = turn(net, state, feeds)
            top = (tuple(1 if switch[0] == "tie" else 2 for switch in net[2]), feeds + (2,) * len(net[1]))
            fits = [
                one for one in states_between(start, top)
                if above(one, (slow_readings(net, one[1]), slow_response(net, *one)))
            ]
            self.assertIn(first, fits)
            self.assertTrue(all(above(one, first) for one in fits))
            self.check_calm(net, first, states[-1])
            for one, other in zip(states, states[1:]):
                self.assertTrue(above(one, other) and one != other)

    def check_calm(self, net, first, last):
        """Check that the calm is the greatest resting state below the spread."""
        resting = [one for one in states_below(first) if is_resting(net, one)]
        self.assertIn(last, resting)
        self.assertTrue(all(above(last, one) for one in resting))

    def test_g5_single_steps_in_any_sequence(self):
        """G5, and point 69 on raises and falls: they end in the spread, and in the new state."""
        source = random.Random(51)
        for _ in range(250):
            net, state, feeds = some_turn(source)
            first, states = turn(net, state, feeds)
            for _ in range(3):
                moving = begun(net, state, feeds)
                steps = 0
                while can_raise(net, moving):
                    moving = raised(net, moving, source.choice(can_raise(net, moving)))
                    steps += 1
                self.same(moving, first)
                self.assertLessEqual(steps, len(net[1]) + len(net[2]))
                while can_fall(net, moving):
                    lower = fallen(net, moving, source.choice(can_fall(net, moving)))
                    self.assertTrue(above(moving, lower) and lower != moving)
                    moving = lower
                self.same(moving, states[-1])

    def test_g6_responses_stay(self):
        source = random.Random(6)
        for _ in range(300):
            net, state, feeds = some_turn(source)
            first, states = turn(net, state, feeds)
            self.same(response(net, *first), response(net, first[0], begun(net, state, feeds)[1]))
            for one in states[1:]:
                self.same(one[1], response(net, one[0], first[1]))
                self.same(response(net, *one), response(net, one[0], first[1]))
            positions, held = some_state(source, net)
            told = response(net, positions, held)
            mixed = tuple(source.choice(pair) for pair in zip(held, told))
            self.same(response(net, positions, mixed), told)

    def test_g6_depth(self):
        source = random.Random(61)
        for _ in range(400):
            net, state, feeds = some_turn(source, 2, 5, 8)
            first, states = turn(net, state, feeds)
            settled = [tank for tank in gate_tanks(net) if first[1][tank] == 2 != states[-1][1][tank]]
            self.assertLessEqual(len(states) - 1, 1 + len(settled))

    def test_joined_states_spread_alike(self):
        """A turn from two joined states is above the turn from each."""
        source = random.Random(63)
        for _ in range(150):
            net, state, feeds = some_turn(source)
            other = some_state(source, net)
            both = tuple(join_all(one, another) for one, another in zip(state, other))
            self.assertTrue(above(spread(net, both, feeds), spread(net, other, feeds)))


def states_below(state):
    """Return all states that are below a state."""
    lowest = [tuple((0, 1, 2) if value == 2 else (value,) for value in row) for row in state]
    rows = [[]]
    for choices in lowest[0] + lowest[1]:
        rows = [row + [value] for row in rows for value in choices]
    many = len(state[0])
    return [(tuple(row[:many]), tuple(row[many:])) for row in rows]
