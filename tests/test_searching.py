"""Point 84: configurations, followers, searches and replays of benches."""

import itertools
import random

from everyohm.searching import first_of, next_of, replay, run_bench
from bads import bad_numbers, bads, near_row
from helpers import BARE, CROSS, FIGHT, JUNK, NETS, TURNER, Case
from nets import likely_net
from slowbenches import slow_code, slow_first, slow_next, slow_notes, slow_run, some_bench
from test_codes import NO_BENCHES

A, Q, N, M = ("at", "a"), ("at", "q"), ("at", "n"), ("at", "m")
GO, ZERO, ONE, X = ("go",), ("val", 0), ("val", 1), ("val", 2)
START = (((1, 2), (0, 1, 2, 2)), (0, 1, 2), ())
REST = ((1, 0), (0, 1, 0, 1))
# A bench that names no node or note, and one with too many rows.
FAULTY = (
    (("NotFlat", ("feed", "q")), ("b", (("set", "q", ZERO),))), (("NoSuchName", ("zz",)), ("b", (("want", "low", ("at", "zz")),))),
    (("NameTwice", ("q",)), ("b", (("any", ("q",)),))), (("TooMany", (400,)), ("b", (("times", 64, (GO,) * 7),))),
)
# Sets a to a free value, turns, and wishes q to be the other one.
FREE = ("b", (("any", ("n",)), ("set", "a", N), GO, ("want", "q", ("not", N))))


class StepsTest(Case):
    def test_first(self):
        self.gives(START, first_of, net=TURNER, bench=("b", ()))
        self.gives((((), (0, 1)), (0, 1), ()), first_of, net=BARE, bench=("b", ()))
        self.gives(START[:2] + ((2, 2),), first_of, net=TURNER, bench=("b", (("let", "n", X), ("any", ("m", "n")))))
        for net in NETS:
            bench = ("b", (("times", 0, (("any", ("mm",)),)),))
            self.gives(slow_first(net, bench), first_of, net=net, bench=bench)

    def follow(self, wanted, lines, place, configuration, net=TURNER):
        bench = ("b", lines)
        self.gives(wanted, next_of, net=net, bench=bench, place=place, configuration=configuration)
        self.same(slow_next(net, bench, place, configuration), wanted)

    def test_each_row(self):
        noted = (REST, (0, 1, 1), (0, 2))
        notes = (("times", 0, (("any", ("m", "n")),)),)
        self.follow((), notes, 0, noted)
        self.follow(((1, (REST, (0, 1, 0), (0, 2)), None),), notes + (("set", "a", A),), 0, noted)
        self.follow(((1, (REST, (0, 1, 2), (0, 2)), None),), notes + (("set", "a", N),), 0, noted)
        self.follow(((1, (REST, (0, 1, 1), (0, 0)), None),), notes + (("let", "n", M),), 0, noted)
        self.follow(((1, (REST, (0, 1, 1), (1, 2)), None),), notes + (("let", "m", ("or", Q, N)),), 0, noted)
        self.follow(((1, (((1, 1), (0, 1, 1, 0)), (0, 1, 1), (0, 2)), None),), notes + (GO,), 0, noted)
        self.follow(((4, noted, "out"), (2, noted, "in")), notes + (GO, ("loop", (GO,))), 1, noted)
        self.follow(((1, noted, None),), notes + (GO, ("loop", (GO,))), 3, noted)
        self.follow(((1, (REST, (0, 1, 1), (0, 0)), (0,)), (1, (REST, (0, 1, 1), (0, 1)), (1,))), (("any", ("n",)), ("let", "m", X)), 0, noted)
        self.follow(tuple((1, (REST, (0, 1, 1), (second, first)), (first, second)) for first, second in ((0, 0), (0, 1), (1, 0), (1, 1))), (("any", ("n", "m")),), 0, noted)
        six = tuple("bcdefg")
        self.follow(
            tuple((1, (REST, (0, 1, 1), choice), choice) for choice in itertools.product((0, 1), repeat=6)), (("any", six),), 0, (REST, (0, 1, 1), (2,) * 6))

    def test_wishes(self):
        stays = lambda configuration: ((1, configuration, None),)
        for told, wanted in itertools.product((0, 1, 2), repeat=2):
            configuration = (((1, 0), (0, 1, 0, told)), (0, 1, 1), ())
            result = stays(configuration) if wanted in (2, told) else ("unsure" if told == 2 else "broken", 3, told, wanted)
            self.follow(result, (("want", "q", ("val", wanted)),), 0, configuration)
        # Formulas know what the state holds, not the feeds of the next turn.
        self.follow(stays((REST, (0, 1, 1), ())), (("want", "q", ("not", A)),), 0, (REST, (0, 1, 1), ()))
        self.follow(("broken", 2, 0, 1), (("want", "a", Q),), 0, (REST, (0, 1, 1), ()))
        self.follow(("broken", 0, 0, 1), (("want", "low", ("at", "high")),), 0, (REST, (0, 1, 1), ()))

    def test_random_steps(self):
        source = random.Random(84)
        words = {}
        for _ in range(250):
            net = likely_net(source, 2, 3, 5)
            bench = some_bench(source, net, notes=("mm", "nn"))
            code = slow_code(net, bench)
            configuration = first_of(net, bench)
            for _ in range(6):
                place = source.randint(0, len(code))
                wanted = slow_next(net, bench, place, configuration)
                word = code[place][0] if place < len(code) else "end"
                words[word] = words.get(word, 0) + 1
                self.gives(wanted, next_of, net=net, bench=bench, place=place, configuration=configuration)
                if wanted and not isinstance(wanted[0], str):
                    configuration = source.choice(wanted)[1]
        self.assertTrue(len(words) == 8 and min(words.values()) > 40, words)

    def test_wrong_arguments(self):
        noted = ("b", (("any", ("n",)), GO))
        configuration = START[:2] + ((2,),)
        for net in (TURNER, CROSS, FIGHT):
            state, feeds, notes = first_of(net, noted)
            self.refuses(first_of, {"net": net, "bench": noted}, {"bench": NO_BENCHES}, ("net",))
            odd = near_row((state, feeds, notes), ()) + [(thing, feeds, notes) for thing in bads(net)["state"]] + [(state, thing, notes) for thing in bads(net)["feeds"]]
            odd += [(state, feeds, thing) for thing in near_row(notes, (3, -1, True, None, "0"))] + [(feeds, state, notes), (state, notes, feeds)]
            bad = {"bench": NO_BENCHES, "place": bad_numbers(0), "configuration": list(JUNK) + odd}
            self.refuses(next_of, {"net": net, "bench": noted, "place": 0, "configuration": (state, feeds, notes)}, bad, ("net",))
        # A place beyond the end is refused last, behind what code_of raises.
        for place in (3, 4, 10 ** 300):
            self.fails("NotUsable", ("place", -1), next_of, TURNER, noted, place, configuration)
            self.fails("NotUsable", ("configuration", -1), next_of, TURNER, noted, place, None)
        self.gives((), next_of, net=TURNER, bench=noted, place=2, configuration=configuration)

    def test_errors_of_codes(self):
        for (error, fields), bench in FAULTY:
            configuration = START[:2] + ((2,) * len(slow_notes(bench)),)
            self.fails(error, fields, first_of, TURNER, bench)
            for place in (0, 500):
                self.fails(error, fields, next_of, TURNER, bench, place, configuration)
            self.fails(error, fields, run_bench, TURNER, bench, 1)
            self.fails(error, fields, replay, TURNER, bench, ("in",) * 5)
            # Parameters come first.
            self.fails("NotUsable", ("place", -1), next_of, TURNER, bench, None, configuration)
            self.fails("NotUsable", ("configuration", -1), next_of, TURNER, bench, 0, None)
            self.fails("NotUsable", ("limit", -1), run_bench, TURNER, bench, 0)
            for thing in (None, ["in"], ("in", ()), ((2,),), ((0,) * 7,), ("in", "up"), (["out"],), "in", ((True,),)):
                self.fails("NotUsable", ("choices", -1), replay, TURNER, bench, thing)


class RunsTest(Case):
    def test_examples(self):
        bench = ("b", (("any", ("n",)), ("want", "a", N)))
        self.gives(("unsure", 1, ((0,),), 2, 2, 0), run_bench, net=TURNER, bench=bench, limit=9)

    def test_small_benches(self):
        self.gives(("kept", ((START,),)), run_bench, net=TURNER, bench=("b", ()), limit=1)
        calm = (((1, 2), (0, 1, 2, 2)), (0, 1, 2), ())
        self.gives(("kept", ((START,), (calm,))), run_bench, net=TURNER, bench=("b", (GO,)), limit=1)
        kept = run_bench(TURNER, FREE, 8)
        self.same(kept[0], "kept")
        self.same([len(table) for table in kept[1]], [1, 2, 2, 2, 2])
        self.same(kept[1][4], ((((1, 0), (0, 1, 0, 1)), (0, 1, 0), (0,)), (((1, 1), (0, 1, 1, 0)), (0, 1, 1), (1,))))
        wrong = ("b", FREE[1][:3] + (("want", "q", N),))
        self.gives(("broken", 3, ((0,),), 3, 1, 0), run_bench, net=TURNER, bench=wrong, limit=99)
        loop = ("b", (("loop", (("any", ("n",)), ("set", "a", N), GO)), ("want", "q", ("not", A)), ("want", "low", ("at", "high"))))
        self.gives(("broken", 6, ("out",), 0, 0, 1), run_bench, net=TURNER, bench=loop, limit=99)
        later = ("b", (("loop", (("any", ("n",)), ("set", "a", N), GO)), ("want", "a", ZERO)))
        self.gives(("unsure", 5, ("out",), 2, 2, 0), run_bench, net=TURNER, bench=later, limit=99)
        third = ("b", (("set", "a", ZERO), GO, ("loop", (("any", ("m", "n")), ("set", "a", ("and", M, N)), GO)), ("want", "a", ZERO)))
        self.gives(("broken", 7, ("in", (1, 1), "out"), 2, 1, 0), run_bench, net=TURNER, bench=third, limit=99)

    def test_limits(self):
        source = random.Random(841)
        for bench in (FREE, ("b", (("loop", (("any", ("n",)), ("set", "a", N), GO)),)), ("b", (GO,) * 5)) + tuple(some_bench(source, TURNER) for _ in range(60)):
            wanted, made = slow_run(TURNER, bench, 10 ** 6)
            for limit in {max(1, made), made + 1, made - 1, made // 2, 1} - {0, -1}:
                told, _ = slow_run(TURNER, bench, limit)
                if told[0] == "TooMany":
                    self.fails("TooMany", (limit,), run_bench, TURNER, bench, limit)
                    self.fails("TooMany", (limit,), run_bench, limit=limit, bench=bench, net=TURNER)
                else:
                    self.same(told, wanted)
                    self.gives(wanted, run_bench, net=TURNER, bench=bench, limit=limit)

    def test_repeated_followers_count(self):
        # Each of the 64 choices gives a follower; behind them stands one configuration, as the notes are set.
        bench = ("b", (("any", ("n",)), ("let", "n", ZERO), GO))
        self.assertEqual(slow_run(TURNER, bench, 10 ** 6)[1], 5)
        self.same(run_bench(TURNER, bench, 5)[0], "kept")
        self.same([len(table) for table in run_bench(TURNER, bench, 5)[1]], [1, 2, 1, 1])
        self.fails("TooMany", (4,), run_bench, TURNER, bench, 4)

    def test_random_benches(self):
        source = random.Random(842)
        seen = {}
        for _ in range(250):
            net = likely_net(source, 2, 3, 5)
            bench = some_bench(source, net, notes=("mm", "nn"), most=6)
            wanted, _ = slow_run(net, bench, 120)
            seen[wanted[0]] = seen.get(wanted[0], 0) + 1
            if wanted[0] == "TooMany":
                self.fails("TooMany", (120,), run_bench, net, bench, 120)
                continue
            self.gives(wanted, run_bench, net=net, bench=bench, limit=120)
            if wanted[0] != "kept":
                self.same(replay(net, bench, wanted[2]), wanted)
        self.assertTrue(min(seen[word] for word in ("kept", "broken", "unsure")) > 15, seen)

    def test_wrong_arguments(self):
        for net in (TURNER, BARE):
            bad = {"bench": NO_BENCHES, "limit": bad_numbers(1)}
            self.refuses(run_bench, {"net": net, "bench": ("b", ()), "limit": 1}, bad, ("net",))


def slow_replay(net, bench, choices):
    """Return what replay is to return, or None if the choices do not fit."""
    place, configuration, used = 0, slow_first(net, bench), 0
    code = slow_code(net, bench)
    while place < len(code):
        found = slow_next(net, bench, place, configuration)
        if isinstance(found[0], str):
            return (found[0], place, choices) + found[1:] if used == len(choices) else None
        if code[place][0] in ("any", "fork"):
            if used == len(choices):
                return (place, configuration)
            found = [follower for follower in found if follower[2] == choices[used]]
            used += 1
            if not found:
                return None
        place, configuration, _ = found[0]
    return (place, configuration) if used == len(choices) else None


class ReplaysTest(Case):
    def check(self, net, bench, choices):
        wanted = slow_replay(net, bench, choices)
        if wanted is None:
            self.fails("NotUsable", ("choices", -1), replay, net, bench, choices)
        else:
            self.gives(wanted, replay, net=net, bench=bench, choices=choices)
        return wanted

    def test_free(self):
        self.gives((0, START[:2] + ((2,),)), replay, net=TURNER, bench=FREE, choices=())
        self.gives((4, (REST, (0, 1, 0), (0,))), replay, net=TURNER, bench=FREE, choices=((0,),))
        for choices in (((0, 1),), ("in",), ("out",), ((0,), (0,)), ((0,), "out"), ((1,), (0, 0))):
            self.fails("NotUsable", ("choices", -1), replay, TURNER, FREE, choices)

    def test_loops(self):
        bench = ("b", (("loop", (("any", ("m", "n")), ("set", "a", ("xor", M, N)), GO)), ("want", "q", ("not", A))))
        for many in range(4):
            for last in ((), ("out",), ("in",), ("out", "out"), ("out", (0, 0)), ((0, 0),), ("in", "in"), ("in", (1,)), ("in", (1, 1, 0))):
                self.check(TURNER, bench, ("in", (0, 1)) * many + last)

    def test_bad_wishes(self):
        bench = ("b", (("any", ("n",)), ("set", "a", N), GO, ("want", "q", N), ("any", ("n",)), GO))
        self.gives(("broken", 3, ((1,),), 3, 0, 1), replay, net=TURNER, bench=bench, choices=((1,),))
        self.fails("NotUsable", ("choices", -1), replay, TURNER, bench, ((1,), (0,)))
        self.gives(("unsure", 0, (), 3, 2, 1), replay, net=TURNER, bench=("b", (("want", "q", ONE), ("loop", ()))), choices=())
        self.fails("NotUsable", ("choices", -1), replay, TURNER, ("b", (("want", "q", ONE), ("loop", ()))), ("out",))

    def test_cut_lengthened_and_bent(self):
        source = random.Random(843)
        seen = {True: 0, False: 0}
        pool = ("in", "out", (0,), (1,), (0, 1), (1, 1))
        for _ in range(300):
            net = likely_net(source, 2, 2, 4)
            bench = some_bench(source, net, notes=("mm", "nn"), most=6)
            choices = self.some_choices(source, net, bench)
            self.assertIsNotNone(self.check(net, bench, choices))
            for other in (choices[:-1], choices + (source.choice(pool),), choices[1:], choices[:1] + (source.choice(pool),) + choices[2:]):
                seen[self.check(net, bench, other) is None] += 1
        self.assertGreater(min(seen.values()), 100)

    def some_choices(self, source, net, bench):
        """Return choices that fit, up to the end, a bad wish, or the twelfth."""
        place, configuration, choices = 0, slow_first(net, bench), ()
        while len(choices) < 12:
            found = slow_next(net, bench, place, configuration)
            if not found or isinstance(found[0], str):
                break
            place, configuration, choice = source.choice(found)
            choices += (choice,) if choice is not None else ()
        return choices

    def test_wrong_arguments(self):
        odd = [thing for thing in JUNK if not self.are_choices(thing)] + [
            ["in"], ("in", "to"), ("in", ["out"]), ("in", ()), ((2,),), ((True,),), ((0,) * 7,), ((0, None),), ("in", 0), ((0, 3),), "in", ("IN",), (None,), ((-1,),), ([0],), (((0,),),)]
        self.refuses(replay, {"net": TURNER, "bench": FREE, "choices": ((0,),)}, {"bench": NO_BENCHES, "choices": odd}, ("net",))
        self.gives((0, START), replay, net=TURNER, bench=("b", ()), choices=())
        self.fails("NotUsable", ("choices", -1), replay, TURNER, ("b", ()), ("out",))

    def are_choices(self, thing):
        fits = lambda one: one in ("in", "out") if isinstance(one, str) else (
            isinstance(one, tuple) and 1 <= len(one) <= 6 and all(type(value) is int and value in (0, 1) for value in one))
        return isinstance(thing, tuple) and all(fits(one) for one in thing)
