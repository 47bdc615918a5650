"""The names of the interface that have landed, where they are defined, and their arguments ([1])."""

import ast
import importlib
import inspect
import unittest
from pathlib import Path

PACKAGE = Path(__file__).resolve().parent.parent / "anypasses"
INTERFACE = {
    "numbers": "is_width(value) is_of_width(value,width) wrapped(number,width) signed(number,width)"
               " bin_told(op,width,one,other) cmp_told(pred,width,one,other) cast_told(kind,width,to,number)",
    "runs": "is_run(value) is_beginning(one,other) agree_so_far(one,other)",
    "forms": "is_name(value) is_type(value) is_operand(value) is_op(value) is_ending(value) is_function(value)"
             " is_module(value)",
    "tokens": "tokens_of(text)",
    "writing": "op_text(op) ending_text(ending) module_text(module)",
    "reading": "read_op(text) read_module(text)",
    "parts": "part_places(module) value_types(module,function) operand_uses(function)",
    "standing": "standing(function) stands_at(function,label,place) missed_way(function,label,place,value)"
                " is_missed_way(function,label,place,value,way)",
    "admission": "module_fault(module) admitted(module)",
    "renumbering": "renumbered(module) renaming(one,other) renamed(module,names)",
    "states": "is_inputs(value)",
    "machine": "start_state(module,inputs) step_state(module,state) advance(module,state,fuel) run_of(state)"
               " depth_of(state) run_module(module,inputs,fuel) whole_run(module,inputs,most)"
               " deeds_of(module,inputs,fuel)",
    "webs": "block_at(function,label) end_labels(end) sources_of(function,label) reached_labels(function)"
            " way_to(function,label) home_of(function,value)",
    "dominating": "dominates(function,one,other) way_around(function,one,other) tree_of(function)"
                  " is_standing_tree(function,value)",
    "meeting": "frontier(function,label) meeting_labels(function,labels)",
    "loops": "turns_of(function) loops_of(function) loop_ends(function,head)",
    "settling": "settle(targets,starts,step,join,rounds) unsettled(targets,starts,step,join,facts)",
    "living": "op_uses(op) end_uses(end) live_values(function) is_live_paper(function,value)",
    "ranges": "bin_range(op,width,one,other) cmp_range(pred,width,one,other) narrowed(pred,width,one,other)",
    "rangepapers": "known_ranges(function) is_range_paper(function,value) range_at(function,paper,site,value)",
    "pureness": "is_pure(op) folded(op)",
    "rules": "rule_letters(module,function,k,value) rule_fits(module,function,k,value,operand)",
    "value_steps": "apply_value(module,step)",
    "flow_steps": "apply_flow(module,step)",
    "places": "place_of(function,operand,width) base_of(function,operand) is_private(function,value)"
              " are_apart(function,one,other) is_inside(module,function,place)",
    "contents": "content_behind(function,place,content,op) contents_hold(function,place,paper)"
                " content_ahead(function,place,paper,label,index) unread_holds(function,place,labels)"
                " is_unread(function,place,labels,label,index)",
    "memory_steps": "told_cells(function,value) apply_memory(module,step)",
    "callees": "quiet_fuel(module) is_alike(module,value)",
    "call_steps": "apply_call(module,step)",
    "papers": "step_words() is_paper(value) step_kind(step)",
    "judge": "apply_step(module,step) judged(module,paper) fitting_steps(module,paper) stages(module,paper)"
             " shortened(module,paper) leads(module,paper,other) same_runs(module,other,inputs,fuel)",
    "lots": "lot_taken(function,values)",
    "cleaning": "pass_clean(module) is_clean(module)",
    "needs": "needed_values(module,function) dead_values(module,function) pass_dead(module) is_lean(module)",
    "neatness": "pass_neat(module) is_neat(module)",
    "knowing": "known_numbers(function) is_number_paper(function,value) told_number(function,paper,value)",
    "constants": "loose_number(module) pass_constants(module)",
    "sides": "known_sides(function)",
    "rangepasses": "loose_range(module) pass_ranges(module)",
    "weights": "op_weight(op) weight(function)",
    "combining": "is_combined(module) pass_combine(module)",
    "sharing": "is_shared(module) pass_values(module) is_tidy(module) pass_tidy(module)",
    "promotion": "spare_entries(function,value,paper) promotion_paper(function,value) pass_promote(module)"
                 " is_promoted(module)",
    "remembering": "best_contents(function,place) best_unread(function,place) pass_memory(module)"
                   " is_remembered(module)",
    "landing": "landing_block(function,head) has_landings(module) pass_landings(module)",
    "hoisting": "loose_ops(module) pass_hoist(module)",
    "peeling": "is_plain(function,head) peel_paper(module,name,head)",
    "turning": "unturned_heads(function) pass_turn(module)",
    "callgoals": "small_call(module) tail_left(module) loose_signature(module) doubled_call(module)"
                 " unused_thing(module)",
    "callpasses": "pass_inline(module) pass_tails(module) pass_signatures(module) pass_merge(module)"
                  " pass_unused(module)",
    "rows": "pass_paper(module,name) optimised(module,names) still(module,names) rounds_told(module,names,most)"
            " size_of(module) growth(module,names) whole(text,names)",
    "builds": "checked(build,inputs,fuel)",
}
CLASSES = {
    "builds": ("Build(text)", "__len__() module() first() paper() text() do(name) judge(paper) undo() within(work)"),
    "desk": ("Desk()", "load(text) say(command)"),
}
VALUES = {"numbers": "WIDTHS OPS PREDS CASTS", "rules": "RULES", "value_steps": "VALUE_WORDS", "flow_steps": "FLOW_WORDS",
          "memory_steps": "MEMORY_WORDS", "call_steps": "CALL_WORDS", "rows": "PASSES"}
ERRORS = ("PassError", "InvalidText", "InvalidModule", "InvalidStep", "InvalidQuestion", "Refused", "InvalidCommand")


def defined_in(name):
    tree = ast.parse((PACKAGE / f"{name}.py").read_text())
    return [node.name for node in tree.body if isinstance(node, (ast.FunctionDef, ast.ClassDef))]


class Interface(unittest.TestCase):
    def test_functions(self):
        for name, told in INTERFACE.items():
            module = importlib.import_module(f"anypasses.{name}")
            for word in told.split():
                function, params = word.rstrip(")").split("(")
                with self.subTest(name=name, function=function):
                    self.assertIn(function, defined_in(name))
                    wanted = params.split(",") if params else []
                    self.assertEqual(list(inspect.signature(getattr(module, function)).parameters), wanted)

    def test_classes(self):
        for name, (told, methods) in CLASSES.items():
            module = importlib.import_module(f"anypasses.{name}")
            word, params = told.rstrip(")").split("(")
            self.assertIn(word, defined_in(name))
            owner = getattr(module, word)
            self.assertEqual(list(inspect.signature(owner).parameters), params.split(",") if params else [])
            for method in methods.split():
                word, params = method.rstrip(")").split("(")
                with self.subTest(name=name, method=word):
                    self.assertIn(word, vars(owner))
                    wanted = ["self"] + (params.split(",") if params else [])
                    self.assertEqual(list(inspect.signature(vars(owner)[word]).parameters), wanted)

    def test_values(self):
        for name, told in VALUES.items():
            module = importlib.import_module(f"anypasses.{name}")
            tree = ast.parse((PACKAGE / f"{name}.py").read_text())
            assigned = [target.id for node in tree.body if isinstance(node, ast.Assign) for target in node.targets]
            for word in told.split():
                self.assertIn(word, assigned)
                self.assertIs(type(getattr(module, word)), tuple)

    def test_errors_are_defined_in_their_file(self):
        self.assertEqual(tuple(defined_in("errors")), ERRORS)


if __name__ == "__main__":
    unittest.main()
