"""Promises 0.2, 0.3 and 5.11: the greatest modules and graphs answer, and no function calls itself deep."""

import sys
import threading
import unittest

from burnish.dominators import (
    deciders, dominates, dominator_order, frontiers, immediate_dominators, immediate_postdominators, is_available,
    iterated_frontier,
)
from burnish.faults import faults, is_valid
from burnish.graph import backwards, critical_edges, definition_places, graph_of, live_names, reachable, reverse_postorder
from burnish.holding import holds_values
from burnish.loops import innermost, is_reducible, loop_exits, loops, preheader
from burnish.parse import parse_module
from burnish.records import canonical, canonical_module
from burnish.run import run, visits
from burnish.scan import scan
from burnish.scopes import dominating, reached
from burnish.show import show_module
from burnish.values import apart, live_labels

MOST = 10000


def shallow(call):
    """Call a function where at most 150 calls may be open at once, and return what it returns."""
    found = []

    def work():
        limit = sys.getrecursionlimit()
        sys.setrecursionlimit(150)
        try:
            found.append(call())
        finally:
            sys.setrecursionlimit(limit)

    thread = threading.Thread(target=work)
    thread.start()
    thread.join()
    return found[0]


def chain():
    return tuple((k, (k + 1,) if k + 1 < MOST else ()) for k in range(MOST))


def nested():
    half = MOST // 2
    return tuple((k, (k + 1,) if k < half else (MOST - 1 - k,) + ((k + 1,) if k + 1 < MOST else ())) for k in range(MOST))


def ladder():
    return tuple((k, tuple(target for target in (k + 1, k + 2) if target < MOST)) for k in range(MOST))


def tangle():
    return tuple((k, ((k * 7919 + 13) % MOST, (k * 104729 + 1) % MOST, (k + 1) % MOST)) for k in range(MOST))


def wide():
    return ((0, tuple(range(1, MOST))),) + tuple((k, (1,) if k % 2 else ()) for k in range(1, MOST))


class GraphBoundsTest(unittest.TestCase):

    def look(self, graph):
        tree = shallow(lambda: immediate_dominators(graph))
        found = shallow(lambda: loops(graph))
        for call in (backwards, reachable, reverse_postorder, critical_edges, immediate_postdominators, frontiers, deciders, innermost, is_reducible):
            shallow(lambda: call(graph))
        shallow(lambda: dominator_order(graph, tree))
        shallow(lambda: dominates(tree, graph[0][0], graph[-1][0]))
        shallow(lambda: iterated_frontier(graph, list(range(0, MOST, 7))))
        for loop in found[:2] + found[-2:]:
            shallow(lambda: loop_exits(graph, loop))
            shallow(lambda: preheader(graph, loop))
        return tree, found

    def test_chain(self):
        tree, found = self.look(chain())
        self.assertTrue(tree == {k + 1: k for k in range(MOST - 1)})
        self.assertEqual(found, [])
        self.assertTrue(immediate_postdominators(chain()) == {k: k + 1 for k in range(MOST - 1)})

    def test_nested_loops(self):
        _, found = self.look(nested())
        half = MOST // 2
        self.assertEqual(len(found), half)
        self.assertEqual(found[half - 1], (half - 1, (half - 1, half), (half,), half - 2, half))
        self.assertEqual(found[1][1:], (tuple(range(1, MOST - 1)), (MOST - 2,), 0, 2))

    def test_ladder(self):
        tree, found = self.look(ladder())
        self.assertTrue(tree == {k: 0 for k in range(1, MOST)})
        self.assertEqual(found, [])

    def test_tangle_and_wide(self):
        self.look(tangle())
        tree, _ = self.look(wide())
        self.assertTrue(tree == {k: 0 for k in range(1, MOST)})


def big_function(blocks=2000, rows=10):
    """Return main with 2000 blocks and 20,000 instructions, in which names live far."""
    found = []
    count = 0
    names = [("int", "i8", 1)]
    for k in range(blocks):
        body = []
        for _ in range(rows):
            body.append((count, "add", "i8", (names[count // 2], names[-1]), (), -1))
            names.append(("name", count))
            count += 1
        end = ("condbr", ("int", "i1", 1), (k + 1, ()), (max(k - 1, 1), ())) if 0 < k < blocks - 1 else ("br", (k + 1, ()))
        if k == blocks - 1:
            end = ("ret", ("int", "i32", 5))
        found.append((k, (), tuple(body), end))
    return ("main", "i32", False, tuple(found))


class ModuleBoundsTest(unittest.TestCase):

    def test_greatest_function(self):
        function = big_function()
        module = ((), (function,))
        self.assertEqual(shallow(lambda: faults(module)), [])
        self.assertEqual(len(shallow(lambda: reached(function))), 2000)
        self.assertTrue(shallow(lambda: dominating(function))[1999] == list(range(2000)))
        live = shallow(lambda: live_names(function))
        self.assertEqual(live[1999][-1], 19989)
        self.assertTrue(shallow(lambda: canonical(function)) == function)
        self.assertEqual(len(shallow(lambda: definition_places(function))), 20000)
        tree = immediate_dominators(graph_of(function))
        self.assertIs(shallow(lambda: is_available(function, tree, 3, 1999, 0)), True)
        self.assertIs(shallow(lambda: holds_values(module, function, ((), (), ()))), True)
        self.assertEqual(len(shallow(lambda: live_labels(function, ()))), 2000)
        self.assertIs(shallow(lambda: apart(function, ((), (), ()), ("null",), 1, ("null",), 1)), True)
        result = shallow(lambda: run(module, [], fuel=30000))
        self.assertEqual(result, ([], ("exit", 5), 22000))
        self.assertEqual(len(shallow(lambda: list(visits(module, [], fuel=30000)))), 2000)

    def test_operands(self):
        params = tuple((k, "i32") for k in range(64))
        args = tuple(("int", "i32", k) for k in range(64))
        body = tuple((k, "call", "i32", args, ("f",), k) for k in range(20000))
        module = ((), (("f", "i32", True, ((0, params, (), ("ret", ("name", 63))),)), ("main", "i32", False, ((0, (), body, ("ret", ("name", 0))),))))
        self.assertEqual(shallow(lambda: faults(module)), [])

    def test_many_functions_and_globals(self):
        globals_ = tuple((f"g{k}", k % 2 == 0, (k,) * 4096) for k in range(64))
        functions = tuple((f"f{k}", "void", True, tuple((label, (), (), ("br", (label + 1, ())) if label < 99 else ("ret", None))
                                                         for label in range(100))) for k in range(63))
        module = (globals_, functions + (("main", "i32", False, ((0, (), (), ("ret", ("int", "i32", 0))),)),))
        self.assertIs(shallow(lambda: is_valid(module)), True)
        self.assertTrue(shallow(lambda: canonical_module(module)) == module)
        self.assertEqual(shallow(lambda: run(module, [], fuel=5)), ([], ("exit", 0), 1))

    def test_longest_text(self):
        row = "$0 = add i8 i8 1, i8 2 !5 "
        text = "export main i32 { 0(): " + row * (199000 // len(row)) + "ret i32 0 }"
        self.assertEqual(len(shallow(lambda: parse_module(text))[1][0][3][0][2]), 199000 // len(row))
        for many in ("(" * 200000, "$" * 200000, "a" * 200000, "9" * 200000, " " * 200000):
            self.assertLessEqual(len(shallow(lambda: scan(many))), 200000)
        blocks = " ".join(f"{k}(): br {k + 1}()" for k in range(9000)) + " 9000(): ret i32 0"
        module = shallow(lambda: parse_module("export main i32 { " + blocks + " }"))
        self.assertTrue(parse_module(show_module(module)) == module)

    def test_a_wide_switch(self):
        cases = tuple((k, (1, (("int", "i32", k),))) for k in range(9000))
        blocks = ((0, (), ((0, "call", "i32", (), ("get",), 0),), ("switch", ("name", 0), cases, (1, (("name", 0),)))),
                  (1, ((1, "i32"),), (), ("ret", ("name", 1))))
        module = ((), (("main", "i32", False, blocks),))
        self.assertEqual(shallow(lambda: faults(module)), [])
        self.assertIs(shallow(lambda: holds_values(module, module[1][0], ((), (), ()))), True)
        self.assertEqual(run(module, [77], fuel=9), ([], ("exit", 77), 3))


if __name__ == "__main__":
    unittest.main()
