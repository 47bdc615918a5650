"""The names of the interface that have landed, where they are defined, and their arguments ([1])."""

import ast
import importlib
import inspect
import unittest
from pathlib import Path

PACKAGE = Path(__file__).resolve().parent.parent / "anypasses"
INTERFACE = {
    "numbers": "is_width(value) is_of_width(value,width) wrapped(number,width) signed(number,width)"
               " bin_told(op,width,one,other) cmp_told(pred,width,one,other) cast_told(kind,width,to,number)",
    "runs": "is_run(value) is_beginning(one,other) agree_so_far(one,other)",
    "forms": "is_name(value) is_type(value) is_operand(value) is_op(value) is_ending(value) is_function(value)"
             " is_module(value)",
    "tokens": "tokens_of(text)",
    "writing": "op_text(op) ending_text(ending) module_text(module)",
    "reading": "read_op(text) read_module(text)",
    "parts": "part_places(module) value_types(module,function) operand_uses(function)",
    "standing": "standing(function) stands_at(function,label,place) missed_way(function,label,place,value)"
                " is_missed_way(function,label,place,value,way)",
    "admission": "module_fault(module) admitted(module)",
    "renumbering": "renumbered(module) renaming(one,other) renamed(module,names)",
    "states": "is_inputs(value)",
    "machine": "start_state(module,inputs) step_state(module,state) advance(module,state,fuel) run_of(state)"
               " depth_of(state) run_module(module,inputs,fuel) whole_run(module,inputs,most)"
               " deeds_of(module,inputs,fuel)",
    "webs": "block_at(function,label) end_labels(end) sources_of(function,label) reached_labels(function)"
            " way_to(function,label) home_of(function,value)",
    "dominating": "dominates(function,one,other) way_around(function,one,other) tree_of(function)"
                  " is_standing_tree(function,value)",
    "meeting": "frontier(function,label) meeting_labels(function,labels)",
    "loops": "turns_of(function) loops_of(function) loop_ends(function,head)",
    "settling": "settle(targets,starts,step,join,rounds) unsettled(targets,starts,step,join,facts)",
}
ERRORS = ("PassError", "InvalidText", "InvalidModule", "InvalidStep", "InvalidQuestion", "Refused", "InvalidCommand")


def defined_in(name):
    tree = ast.parse((PACKAGE / f"{name}.py").read_text())
    return [node.name for node in tree.body if isinstance(node, (ast.FunctionDef, ast.ClassDef))]


class Interface(unittest.TestCase):
    def test_functions(self):
        for name, told in INTERFACE.items():
            module = importlib.import_module(f"anypasses.{name}")
            for word in told.split():
                function, params = word.rstrip(")").split("(")
                with self.subTest(name=name, function=function):
                    self.assertIn(function, defined_in(name))
                    self.assertEqual(list(inspect.signature(getattr(module, function)).parameters), params.split(","))

    def test_errors_are_defined_in_their_file(self):
        self.assertEqual(tuple(defined_in("errors")), ERRORS)


if __name__ == "__main__":
    unittest.main()
