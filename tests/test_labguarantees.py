"""Point 11, G7 and G8: what labs show, told by states."""

import random

from everyohm.labfits import lab_fits
from everyohm.labrounds import whole_round
from everyohm.labs import Lab
from everyohm.netnodes import gate_tanks
from everyohm.parts import parts_of
from everyohm.turning import turn
from everyohm.worldkinds import need, slack_after
from helpers import Case
from nets import known_state, likely_net, some_feeds, some_state
from slowlabs import slow_need, some_feed_volts, some_move, some_start
from slowranks import nodes_of


def is_adrift_next(net, lab, move):
    """Return whether a settling, made now, would be adrift."""
    if move[0] != "settle":
        return False
    tanks, feeds = next(part for part in parts_of(net, lab.flows()) if move[1] in part[0])
    return feeds == () and len({net[1][tank - len(net[0])][1] for tank in tanks}) > 1


class LabGuaranteesTest(Case):
    def check_now(self, lab, first, states, told):
        """Check that the lab fits the spread, and the state of the chain behind its rounds."""
        net = lab.net()
        slack = slack_after(net, lab.start()[0], lab.adrift())
        self.assertLessEqual(4 * slack[0], slack[1])
        self.assertIs(lab_fits(lab, first, slack), True)
        behind = states[min(lab.rounds(), len(states) - 1)]
        self.assertIs(lab_fits(lab, behind, slack), True)
        for node in nodes_of(net):
            for one in (first, behind):
                if one[1][node] != 2:
                    told[0] += 1
                    self.assertEqual(lab.reads(node), one[1][node])

    def some_moves(self, source, net, base, feeds, rounds):
        """Return moves of a turn, with at least so many rounds in them."""
        free = [feed for feed, value in enumerate(feeds) if value == 2]
        moves = list(whole_round(net)) * rounds
        for _ in range(source.randint(0, 10)):
            moves.insert(source.randint(0, len(moves)), some_move(source, net, base, free))
        return moves

    def test_g7(self):
        """Each run is told by its states, whatever moves, as long as the base is great enough."""
        source = random.Random(7)
        told, turns, adrift = [0], 0, 0
        for _ in range(500):
            net = likely_net(source, 2, 4, 6)
            state = known_state(source, net) if source.random() < 0.5 else some_state(source, net)
            most = source.choice((0, 1, 2, 6))
            base = slow_need(net, most)
            lab = Lab(net, *some_start(source, net, state, base))
            self.assertIs(lab_fits(lab, state, (0, 1)), True)
            goes_on = True
            for _ in range(source.randint(1, 4)):
                feeds = some_feeds(source, net)
                first, states = turn(net, state, feeds)
                lab.go(("turn", some_feed_volts(source, feeds)))
                self.check_now(lab, first, states, told)
                for move in self.some_moves(source, net, base, feeds, len(states) - 1):
                    goes_on = goes_on and not (lab.adrift() == most and is_adrift_next(net, lab, move))
                    if goes_on and move is not None:
                        lab.go(move)
                        self.check_now(lab, first, states, told)
                turns += 1
                state = states[-1]
                if not goes_on:
                    break
                self.assertGreaterEqual(lab.rounds(), len(states) - 1)
            adrift += lab.adrift()
        self.assertGreater(min(told[0] // 100, turns // 10, adrift), 20)

    def test_g7_runs_without_end(self):
        """With tanks of one size no settling is adrift, so one base is enough for many turns."""
        source = random.Random(70)
        for _ in range(25):
            net = likely_net(source, 2, 4, 6)
            net = (net[0], tuple((name, 2) for name, _ in net[1]), net[2])
            state = some_state(source, net)
            lab = Lab(net, *some_start(source, net, state, need(net, 0)))
            for _ in range(25):
                feeds = some_feeds(source, net)
                _, states = turn(net, state, feeds)
                lab.go(("turn", tuple((source.randrange(2) if value == 2 else value, 1) for value in feeds)))
                lab.go_all(whole_round(net) * (len(states) - 1))
                state = states[-1]
                self.assertIs(lab_fits(lab, state, slack_after(net, need(net, 0), 0)), True)
            self.same(lab.adrift(), 0)

    def test_g7_ties_from_feeds(self):
        """Tanks with a closed road of ties from a feed settle by it, whatever their sizes."""
        source = random.Random(71)
        for _ in range(40):
            net = likely_net(source, 2, 3, 5)
            ties = tuple(("tie", source.randint(1, 3), -1, source.randrange(2), tank) for tank in range(len(net[0]), len(net[0]) + len(net[1])))
            net = (net[0], net[1], net[2] + ties)
            state = some_state(source, net)
            lab = Lab(net, *some_start(source, net, state, need(net, 0)))
            for _ in range(3):
                feeds = some_feeds(source, net)
                _, states = turn(net, state, feeds)
                lab.go(("turn", some_feed_volts(source, feeds)))
                lab.go_all(whole_round(net) * (len(states) - 1))
                state = states[-1]
                self.assertIs(lab_fits(lab, state, slack_after(net, need(net, 0), 0)), True)
            self.same(lab.adrift(), 0)

    def test_g8_known_gates_never_change(self):
        """What is known before and in the spread reads just that in each run; runs for what is 2 are in test_runs."""
        source = random.Random(8)
        kept = 0
        for _ in range(200):
            net = likely_net(source, 2, 4, 6)
            state, feeds = known_state(source, net), some_feeds(source, net)
            first, states = turn(net, state, feeds)
            base = slow_need(net, 30)
            lab = Lab(net, *some_start(source, net, state, base))
            lab.go(("turn", some_feed_volts(source, feeds)))
            seen = {tank: {lab.reads(tank)} for tank in gate_tanks(net)}
            for move in self.some_moves(source, net, base, feeds, 2):
                if move is not None:
                    lab.go(move)
                for tank in seen:
                    seen[tank].add(lab.reads(tank))
            for tank in seen:
                if first[1][tank] != 2:
                    kept += 1
                    self.assertEqual(seen[tank], {state[1][tank]})
        self.assertGreater(kept, 40)
