"""The interface: each name exists, with its arguments, and is defined in its file."""

import ast
import importlib
import inspect
import unittest

LISTED = {
    "words": "width(kind) size(kind) signed(w,x) wrap(w,n) binary(op,w,x,y) compare(predicate,w,x,y) opposite(predicate) "
             "swapped(predicate) cast(op,v,w,x) bytes_of(count,x) from_bytes(row)",
    "records": "result_kind(instruction) may_trap(op) builtin(callee) edges(end) with_edge(end,slot,edge) end_operands(end) "
               "map_instruction(instruction,change) map_end(end,change) map_labels(end,change) definitions(function) "
               "find_block(function,label) find_function(module,name) put_block(function,block) put_function(module,function) "
               "new_name(function) new_label(function) canonical(function) canonical_module(module)",
    "scan": "scan(text)",
    "parse": "parse_module(text)",
    "show": "show_operand(operand) show_instruction(instruction) show_end(end) show_function(function) show_module(module)",
    "scopes": "reached(function) dominating(function) kinds_of(function) operand_kind(kinds,operand) signature(module,callee)",
    "faults": "faults(module) is_valid(module) function_faults(module,function)",
    "memory": "allowed(memory,pointer,count) load_value(memory,pointer,kind) store_value(memory,pointer,kind,value) "
              "add_object(memory,sort,cells) end_life(memory,number) move_pointer(pointer,amount) first_memory(module)",
    "steps": "operand_value(module,frame,operand) start(module) step(module,data,state)",
    "run": "run(module,data,*,fuel) visits(module,data,*,fuel) same_run(first,second)",
    "graph": "graph_of(function) backwards(graph) reachable(graph) reverse_postorder(graph) critical_edges(graph) "
             "definition_places(function) live_names(function)",
    "dominators": "immediate_dominators(graph) dominates(tree,a,b) dominator_order(graph,tree) immediate_postdominators(graph) "
                  "frontiers(graph) iterated_frontier(graph,labels) deciders(graph) is_available(function,tree,name,label,i)",
    "loops": "loops(graph) innermost(graph) loop_exits(graph,loop) preheader(graph,loop) is_reducible(graph)",
    "lattice": "full(kind) single(kind,value) union(a,b) within(a,b) normal(kind,bounds) transfer(op,kind,data,kinds,ranges) "
               "decide(predicate,kind,a,b) refine(predicate,kind,a,b)",
    "values": "range_of(function,table,operand) sites_of(function,table,operand) live_labels(function,dead) apart(function,table,p,n,q,m)",
    "holding": "holds_values(module,function,table)",
    "solve": "solve_values(module,function)",
    "effects": "holds_effects(module,table) solve_effects(module)",
    "memfacts": "through(module,function,values,effects,facts,instruction) holds_memory(module,function,values,effects,table) "
                "solve_memory(module,function,values,effects)",
    "equations": "holds_equations(function,table) solve_equations(function)",
    "linear": "linear_form(function,table,operand) holds_linear(function,values,table) solve_linear(function,values)",
    "demand": "holds_demand(function,values,table) solve_demand(function,values)",
    "forms": "has_shape(value) is_operand(value) is_instruction(value)",
    "edits": "incoming(function,label) edge_at(function,label,slot) block_names(block) defined_names(function) uses(function,name) "
             "are_new_names(function,names) are_new_labels(function,labels) replace_uses(function,name,operand) "
             "is_pure(instruction) is_closed(function,label)",
    "graphsteps": " ".join(word + "(module,step)" for word in (
        "prune", "fold_end", "drop_case", "as_condbr", "swap", "join", "cut", "skip", "gather", "fork", "edge_value", "rename")),
    "paramsteps": " ".join(word + "(module,step)" for word in ("copy", "copy_region", "add_param", "same_param", "use_params")),
    "twins": "twins(module,step)",
    "valuesteps": " ".join(word + "(module,step)" for word in (
        "insert", "drop_names", "delete_call", "same", "prefer", "move", "rule", "ranged_rule", "ranges", "demanded", "undemanded",
        "equal", "linear")),
    "memsteps": " ".join(word + "(module,step)" for word in (
        "delete_load", "insert_load", "forward", "same_store", "dead_store", "unread_store"))
                + " is_safe(module,function,facts,label,k,op,kind,pointer)",
    "objectsteps": " ".join(word + "(module,step)" for word in ("drop_kills", "split_alloca", "constant_load", "fix_global", "drop_global")),
    "callsteps": " ".join(word + "(module,step)" for word in (
        "inline", "split_entry", "tail", "drop_argument", "same_argument", "drop_result", "same_function", "drop_function")),
    "check": "apply_step(module,step) check(module,certificate)",
    "rules": "rewrite(function,instruction,number,names) ranged(function,values,instruction,number,names)",
    "combine": "combine(module,name,*,amount=0)",
    "constants": "constants(module,name,*,amount=0)",
    "numbering": "numbering(module,name,*,amount=0) leaders(function,table)",
    "deadcode": "deadcode(module,name,*,amount=0) needed_names(module,name)",
    "sinking": "sinking(module,name,*,amount=0)",
    "promote": "drop_kills(module,name,*,amount=1000) promote(module,name,*,amount=1000) uniform_allocas(function) joins(function,name)",
    "objects": "split(module,name,*,amount=1000) parts(function,name) globals_pass(module,name,*,amount=1000)",
    "stores": "forward_loads(module,name,*,amount=1000) dead_stores(module,name,*,amount=1000)",
    "plainloops": "simple_loops(function) plain(module,name,*,amount=1000) close(module,name,*,amount=1000) rotate(module,name,*,amount=1000)",
    "invariants": "hoist(module,name,*,amount=1000) unswitch(module,name,*,amount=4)",
    "unroll": "peel(module,name,*,amount=1) unroll(module,name,*,amount=2)",
    "strength": "counters(function,loop) strength(module,name,*,amount=1000)",
    "inline": "inline(module,name,*,amount=30) tails(module,name,*,amount=0)",
    "arguments": "arguments(module,name,*,amount=0) merge(module,name,*,amount=0) drop(module,name,*,amount=0)",
    "tidy": "chain(function,label,slot) tidy(module,name,*,amount=0)",
    "thread": "decided(function,label,slot) thread(module,name,*,amount=16)",
    "packing": "pack(value) unpack(data) check_bytes(module,data)",
    "manager": "whole_module(word) run_pass(module,word,name,amount) show_script(script) read_script(text) run_script(module,script) "
               "join(entries) optimize(module,passes)",
    "bisect": "first_bad(module,entries,wrong) first_parting(modules,inputs,fuel) candidates(module) shrink(module,wrong)",
}
ERRORS = {"BurnishError": "", "TextError": "at", "ScriptError": "at", "UnknownPass": "word", "UnknownFunction": "name", "PackError": "at"}


def shown(function):
    """Return the arguments of a function, as they are listed."""
    return str(inspect.signature(function)).replace(" ", "")


class InterfaceTest(unittest.TestCase):

    def test_functions(self):
        for file, text in LISTED.items():
            module = importlib.import_module("burnish." + file)
            for told in text.split():
                name = told.partition("(")[0]
                function = getattr(module, name)
                self.assertTrue(inspect.isfunction(function), told)
                self.assertEqual(function.__module__, "burnish." + file)
                self.assertEqual(name + shown(function), told)

    def test_errors(self):
        module = importlib.import_module("burnish.errors")
        for name in ERRORS:
            self.assertEqual(getattr(module, name).__module__, "burnish.errors")

    def test_machine(self):
        module = importlib.import_module("burnish.run")
        machine = module.Machine
        self.assertEqual(shown(machine), "(module,data)")
        self.assertEqual(shown(machine.go), "(self,*,fuel=1000)")
        self.assertEqual(shown(machine.rewind), "(self,state,steps)")
        self.assertEqual(shown(machine.depth), "(self)")
        for name in ("out", "end", "steps", "state"):
            self.assertIsInstance(vars(machine)[name], property)
        self.look_at_body(module, "Machine", {"__init__", "go", "rewind", "depth", "out", "end", "steps", "state"})
        self.assertTrue(inspect.isgeneratorfunction(module.visits))

    def look_at_body(self, module, name, wanted):
        """Look whether the methods stand in the body of the class itself."""
        with open(module.__file__, encoding="utf-8") as file:
            tree = ast.parse(file.read())
        found = [node for node in tree.body if isinstance(node, ast.ClassDef) and node.name == name][0]
        self.assertLessEqual(wanted, {node.name for node in found.body if isinstance(node, ast.FunctionDef)})

    def test_session(self):
        module = importlib.import_module("burnish.manager")
        session = module.Session
        self.assertEqual(shown(session), "(module)")
        self.assertEqual(shown(session.run), "(self,word,name,*,amount=-1)")
        self.assertEqual(shown(session.undo), "(self)")
        self.assertEqual(shown(session.count), "(self)")
        for name in ("module", "certificate"):
            self.assertIsInstance(vars(session)[name], property)
        self.look_at_body(module, "Session", {"__init__", "run", "undo", "count", "module", "certificate"})
        self.assertIsInstance(module.PASSES, tuple)
        self.assertTrue(inspect.isgeneratorfunction(importlib.import_module("burnish.bisect").candidates))

    def test_scope(self):
        module = importlib.import_module("burnish.edits")
        self.assertEqual(shown(module.Scope), "(function)")
        self.assertEqual(shown(module.Scope.reaches), "(self,label)")
        self.assertEqual(shown(module.Scope.strictly), "(self,a,b)")
        self.assertEqual(shown(module.Scope.available), "(self,operand,label,k)")
        self.assertEqual(shown(module.Scope.outer), "(self,operand,label)")
        self.look_at_body(module, "Scope", {"__init__", "reaches", "strictly", "available", "outer"})


if __name__ == "__main__":
    unittest.main()
