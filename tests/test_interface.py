"""All names of the interface stand where it lists them, with their parameters."""

import importlib
import inspect
import pathlib
import unittest

DOC = pathlib.Path(__file__).resolve().parent.parent.parent / "shared" / "DOC.md"
INTERFACE = {
    "kinds": """is_integer(thing) is_number(thing) is_value(thing) is_known(thing)
        is_quotient(thing) is_name(thing) is_flat_name(thing) is_lot(thing)""",
    "values": """joined(one,other) is_above(one,other) flipped(value)
        joined_all(ones,others) is_above_all(ones,others)""",
    "valuetexts": "values_text(values) read_values(text)",
    "quotients": """quotient_of(top,bottom) plus(one,other) minus(one,other)
        times(one,other) over(one,other) is_less(one,other) total(quotients)
        least_of(quotients) greatest_of(quotients) volt_reads(quotient)
        power(base,exponent)""",
    "quotienttexts": "quotient_text(quotient) read_quotient(text)",
    "datatexts": "data_text(thing)",
    "datareadings": "read_data(text)",
    "words": "words_of(text)",
    "exprs": "is_expr(thing) worth(expr,names)",
    "exprtexts": "expr_text(expr)",
    "exprreading": "read_expr(text)",
    "bookkinds": """is_book(thing) module_named(book,name) ports_of(book,name)
        uses_of(book,name)""",
    "linereading": "read_line(text)",
    "bookreading": "read_book(text)",
    "booktexts": "book_text(book)",
    "netkinds": "is_net(thing) net_fault(thing)",
    "statekinds": """is_positions(net,thing) is_held(net,thing) is_feeds(net,thing)
        is_state(net,thing)""",
    "netnodes": """name_of(net,node) node_of(net,name) size_of(net,tank)
        switches_at(net,node) switches_by(net,node) gate_tanks(net)""",
    "groups": "groups_of(net) group_of(net,tank) cone_of(net,watched)",
    "flattening": "flat(book,top)",
    "edits": """with_feed(net,name) with_tank(net,name,size) without_tank(net,name)
        with_switch(net,kind,strength,gate,left,right) without_switch(net,switch)
        with_strength(net,switch,strength) with_size(net,name,size)""",
    "carrying": "carried(net,state,other,places)",
    "nettexts": "net_text(net) state_text(net,state)",
    "netreadings": "read_net(text) read_state(net,text)",
    "ranks": "rank_of(net,node) switch_rank(net,switch)",
    "floods": "flood(net,usable,starts,floors)",
    "tables": "firm(net,positions) may(net,positions,held,value)",
    "responses": "response(net,positions,held)",
    "merging": "merged(net,positions,held)",
    "fillings": "fillings(net,positions,held) by_fillings(net,positions,held)",
    "roads": """is_road(net,node,thing) road_nodes(net,root,switches) road_ranks(net,root,switches)
        road_to(net,positions,held,value,node) judge_road(net,positions,held,value,node,paper)""",
    "worldkinds": """is_world(net,thing) flow_bounds(base,strength) room_bounds(base,size)
        leak_of(net) spill_of(net) need(net,adrift) slack_after(net,base,adrift)""",
    "worldfits": "world_fault(net,positions,held,world,slack)",
    "parts": "parts_of(net,flows)",
    "meshes": "mesh_of(net,flows) without_node(mesh,node) volt_by(mesh,node,volts)",
    "volts": "volts_of(net,flows,rooms,charges)",
    "balances": "are_volts(net,flows,rooms,charges,volts)",
    "showing": """showing_world(net,positions,held,value,tank,base)
        two_worlds(net,positions,held,tank,base)""",
    "ends": """end_worlds(net,positions,held,base) ends_at(net,positions,held,tank,base)
        end_world(net,positions,held,tank,base,value)""",
    "leakrows": "row_net(many,leaks) row_world(many,leaks,base)",
    "firmpapers": "firm_paper(net,positions) judge_firm(net,positions,paper)",
    "maypapers": """may_paper(net,positions,held,value)
        judge_may(net,positions,held,value,ranks,paper)""",
    "tablepapers": "table_paper(net,positions,held)",
    "tablejudge": "judge_tables(net,positions,held,paper)",
    "pairpapers": "pair_paper(net,positions,held,tank,base)",
    "pairjudge": "judge_pair(net,positions,held,tank,paper)",
    "starts": """readings(net,held) unknown_start(net) is_resting(net,state)
        is_known_state(net,state) is_even(net,state)""",
    "raising": "can_raise(net,state) raised(net,state,item)",
    "falling": "can_fall(net,state) fallen(net,state,item)",
    "turning": """begun(net,state,feeds) spread(net,state,feeds) chain(net,state)
        turn(net,state,feeds) after(net,state,feeds) after_all(net,state,sequence)""",
    "flickers": """flickers(net,state,feeds) shown_tanks(net,state,feeds)
        is_single(net,state,feeds)""",
    "mirrors": "mirrored(net) mirrored_state(net,state) mirrored_feeds(net,feeds)",
    "turnpapers": "turn_paper(net,state,feeds)",
    "turnjudge": "judge_turn(net,state,feeds,paper)",
    "reaching": "reached(net,state,feeds)",
    "moves": "reason_of(net,base,move) whole_settling(net,tank)",
    "labfits": "lab_fits(lab,state,slack) start_fits(net,start,state,slack)",
    "labrounds": "whole_round(net) whole_turn(net,volts,rounds)",
    "runs": "run_of(net,run)",
    "runjudge": "judge_run(net,state,feeds,tank,paper)",
    "showruns": "shown_run(net,state,feeds)",
    "formulas": "is_formula(thing) formula_worth(formula,known)",
    "formulatexts": "read_formula(text) formula_text(formula)",
    "benchreading": "is_bench(thing) read_bench(text)",
    "benchtexts": "bench_text(bench)",
    "codes": "code_of(net,bench) notes_of(bench)",
    "searching": """first_of(net,bench) next_of(net,bench,place,configuration)
        run_bench(net,bench,limit) replay(net,bench,choices)""",
    "benchpapers": "bench_paper(net,bench,limit) judge_bench(net,bench,paper)",
    "alikes": "alike(net,other,names,wide,limit)",
    "alikejudge": "judge_alike(net,other,names,wide,paper)",
    "rulekinds": "is_rule(net,watched,thing)",
    "ruleslist": "rules_of(net,watched)",
    "doing": "rule_done(net,watched,rule)",
    "shortening": """shorten(net,watched) judge_short(net,watched,paper)
        seen_in(net,watched,rules) short_state(net,watched,rules,state)""",
    "desklines": "read_order(text) order_line(order)",
    "desktexts": "saved(desk) restored(text)",
}
# Each class with the parameters of its objects, then its methods with theirs.
CLASSES = {
    "engines": "Engine(net,state) turn(feeds) change(net,places) state() net() worked()",
    "labs": """Lab(net,base,closed,rooms,volts,flows) go(move) go_all(moves) volts() flows()
        volt(node) reads(node) settlings() adrift() rounds() start() net()""",
    "desks": "Desk() say(text) net() state() log()",
}


def parts_of_row(row):
    """Return the name in a row, and the names of the parameters behind it."""
    name, _, rest = row.partition("(")
    return name, [word for word in rest[:-1].split(",") if word]


class InterfaceTest(unittest.TestCase):
    def check_parameters(self, function, names):
        parameters = inspect.signature(function).parameters
        self.assertEqual(list(parameters), names)
        for parameter in parameters.values():
            self.assertIs(parameter.default, inspect.Parameter.empty)
            self.assertEqual(parameter.kind, parameter.POSITIONAL_OR_KEYWORD)

    def test_functions(self):
        for file, text in INTERFACE.items():
            module = importlib.import_module("everyohm." + file)
            for row in text.split():
                name, names = parts_of_row(row)
                with self.subTest(file=file, name=name):
                    function = getattr(module, name)
                    self.assertEqual(function.__module__, "everyohm." + file)
                    self.check_parameters(function, names)

    def test_classes(self):
        for file, text in CLASSES.items():
            rows = [parts_of_row(row) for row in text.split()]
            made = getattr(importlib.import_module("everyohm." + file), rows[0][0])
            self.assertEqual(made.__module__, "everyohm." + file)
            self.check_parameters(made, rows[0][1])
            for name, names in rows[1:]:
                with self.subTest(file=file, name=name):
                    # A method of the interface stands in the class itself.
                    self.assertIn(name, vars(made))
                    self.check_parameters(vars(made)[name], ["self"] + names)

    def test_against_the_document(self):
        """Each heading of the document that names functions of a file is in the tables above."""
        if not DOC.exists():
            self.skipTest("the document is not here")
        listed = {file: set() for file in INTERFACE}
        for line in DOC.read_text(encoding="utf-8").split("\n"):
            if line.startswith("### ") and "(everyohm/" in line:
                text, _, file = line[4:].rpartition(" (everyohm/")
                listed.setdefault(file.partition(".")[0], set()).update(
                    name for name in text.replace("class ", "").replace(", ", ",").replace("),", ") ").split())
        for file, rows in listed.items():
            wanted = set(INTERFACE[file].split()) if file in INTERFACE else {CLASSES[file].split()[0]}
            self.assertEqual(rows, wanted, file)
