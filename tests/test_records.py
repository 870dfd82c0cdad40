"""Promises 2.1 to 2.8: records, and the functions that look at them and change them."""

import copy
import random
import unittest

from burnish import records
from burnish.parse import parse_module
from samples import BINARIES, DIVISIONS, KINDS, Maker, TEXT

MODULE = parse_module(TEXT)
MAIN = MODULE[1][1]
NAME = ("name", 7)
BR = ("br", (3, (NAME, ("null",))))
CONDBR = ("condbr", NAME, (1, ()), (2, (("int", "i8", 4), NAME)))
SWITCH = ("switch", NAME, ((0, (4, ())), (9, (5, (("global", "g"),)))), (6, (NAME,)))
EMPTY = ("switch", ("int", "i8", 1), (), (6, ()))
RET, VOID, STOP = ("ret", NAME), ("ret", None), ("stop", 12)
ENDS = (BR, CONDBR, SWITCH, EMPTY, RET, VOID, STOP)


def row(op, kind, operands=(), data=(), name=1, place=-1):
    return (name, op, kind, operands, data, place)


class TableTest(unittest.TestCase):

    def test_result_kind(self):
        for op in BINARIES + DIVISIONS + ("trunc", "zext", "sext"):
            self.assertEqual(records.result_kind(row(op, "i16")), "i16")
        for kind in KINDS:
            self.assertEqual(records.result_kind(row("icmp", kind, (), ("eq",))), "i1")
            self.assertEqual(records.result_kind(row("select", kind)), kind)
            self.assertEqual(records.result_kind(row("load", kind)), kind)
            self.assertEqual(records.result_kind(row("store", kind)), "void")
            self.assertEqual(records.result_kind(row("call", kind, (), ("f",))), kind)
        self.assertEqual(records.result_kind(row("call", "void", (), ("f",))), "void")
        self.assertEqual(records.result_kind(row("alloca", "ptr", (), (4,))), "ptr")
        self.assertEqual(records.result_kind(row("gep", "ptr", (NAME,), (0,))), "ptr")
        self.assertEqual(records.result_kind(row("kill", "void", (NAME,))), "void")
        self.assertEqual(records.result_kind(row("store", "i8", name=4)), "void")

    def test_may_trap(self):
        for op in DIVISIONS + ("load", "store", "call"):
            self.assertIs(records.may_trap(op), True)
        for op in BINARIES + ("icmp", "select", "trunc", "zext", "sext", "alloca", "gep", "kill"):
            self.assertIs(records.may_trap(op), False)

    def test_builtin(self):
        self.assertEqual(records.builtin("get"), ((), "i32"))
        self.assertEqual(records.builtin("put"), (("i32",), "void"))
        self.assertEqual(records.builtin("exit"), (("i32",), "void"))
        self.assertEqual(records.builtin("malloc"), (("i64",), "ptr"))
        self.assertEqual(records.builtin("free"), (("ptr",), "void"))
        for other in ("main", "add", "puts", "", "call"):
            self.assertIsNone(records.builtin(other))


class EndTest(unittest.TestCase):

    def test_edges(self):
        self.assertEqual(records.edges(BR), [BR[1]])
        self.assertEqual(records.edges(CONDBR), [CONDBR[2], CONDBR[3]])
        self.assertEqual(records.edges(SWITCH), [(4, ()), (5, (("global", "g"),)), (6, (NAME,))])
        self.assertEqual(records.edges(EMPTY), [(6, ())])
        for end in (RET, VOID, STOP):
            self.assertEqual(records.edges(end), [])

    def test_with_edge(self):
        new = (77, (("null",),))
        for end in ENDS:
            for slot in range(len(records.edges(end))):
                changed = records.with_edge(end, slot, new)
                expected = records.edges(end)
                expected[slot] = new
                self.assertEqual(records.edges(changed), expected)
                self.assertEqual(changed[0], end[0])
                self.assertEqual(records.with_edge(changed, slot, records.edges(end)[slot]), end)
        self.assertEqual(records.with_edge(SWITCH, 1, new), ("switch", NAME, ((0, (4, ())), (9, new)), (6, (NAME,))))
        self.assertEqual(records.with_edge(SWITCH, 2, new)[3], new)

    def test_end_operands(self):
        self.assertEqual(records.end_operands(BR), [NAME, ("null",)])
        self.assertEqual(records.end_operands(CONDBR), [NAME, ("int", "i8", 4), NAME])
        self.assertEqual(records.end_operands(SWITCH), [NAME, ("global", "g"), NAME])
        self.assertEqual(records.end_operands(EMPTY), [("int", "i8", 1)])
        self.assertEqual(records.end_operands(RET), [NAME])
        self.assertEqual(records.end_operands(VOID), [])
        self.assertEqual(records.end_operands(STOP), [])

    def test_map_end(self):
        for end in ENDS:
            seen = []

            def change(operand):
                seen.append(operand)
                return ("int", "i64", len(seen))

            changed = records.map_end(end, change)
            self.assertEqual(seen, records.end_operands(end))
            self.assertEqual(records.end_operands(changed), [("int", "i64", k + 1) for k in range(len(seen))])
            self.assertEqual([edge[0] for edge in records.edges(changed)], [edge[0] for edge in records.edges(end)])
            self.assertEqual(records.map_end(end, lambda operand: operand), end)

    def test_map_labels(self):
        self.assertEqual(records.map_labels(BR, lambda label: label + 10), ("br", (13, BR[1][1])))
        self.assertEqual(records.map_labels(SWITCH, lambda label: label * 2),
                         ("switch", NAME, ((0, (8, ())), (9, (10, (("global", "g"),)))), (12, (NAME,))))
        self.assertEqual(records.map_labels(CONDBR, lambda label: 5), ("condbr", NAME, (5, ()), (5, CONDBR[3][1])))
        for end in (RET, VOID, STOP):
            self.assertEqual(records.map_labels(end, lambda label: label + 1), end)

    def test_map_instruction(self):
        for instruction in MAIN[3][0][2]:
            seen = []

            def change(operand):
                seen.append(operand)
                return ("name", 100 + len(seen))

            changed = records.map_instruction(instruction, change)
            self.assertEqual(tuple(seen), instruction[3])
            self.assertEqual(changed[3], tuple(("name", 101 + k) for k in range(len(seen))))
            self.assertEqual(changed[:3] + changed[4:], instruction[:3] + instruction[4:])


class FunctionTest(unittest.TestCase):

    def test_definitions(self):
        self.assertEqual(records.definitions(MAIN),
                         [(0, "ptr"), (1, "ptr"), (2, "i32"), (3, "i32"), (4, "i1"), (5, "i32"), (6, "ptr")])
        odd = ("f", "void", True, ((0, ((5, "i8"), (5, "ptr")), (row("store", "i8", name=3), row("kill", "void", name=-1)), VOID),))
        self.assertEqual(records.definitions(odd), [(5, "i8"), (5, "ptr"), (3, "void")])

    def test_find(self):
        self.assertEqual(records.find_block(MAIN, 2), MAIN[3][2])
        self.assertIsNone(records.find_block(MAIN, 4))
        self.assertEqual(records.find_function(MODULE, "main"), MAIN)
        self.assertIsNone(records.find_function(MODULE, "g"))
        self.assertIsNone(records.find_function(((), ()), "main"))

    def test_first_of_several(self):
        first, second = (1, (), (), STOP), (1, (), (), VOID)
        function = ("f", "void", True, (first, second))
        self.assertEqual(records.find_block(function, 1), first)
        new = (1, (), (), ("stop", 3))
        self.assertEqual(records.put_block(function, new), ("f", "void", True, (new, second)))
        other = ("f", "i8", False, (second,))
        module = ((), (function, other))
        self.assertEqual(records.find_function(module, "f"), function)
        self.assertEqual(records.put_function(module, ("f", "ptr", True, (new,))), ((), (("f", "ptr", True, (new,)), other)))

    def test_put(self):
        block = (2, (), (), STOP)
        changed = records.put_block(MAIN, block)
        self.assertEqual(changed[3], MAIN[3][:2] + (block,) + MAIN[3][3:])
        self.assertEqual(changed[:3], MAIN[:3])
        self.assertIs(records.put_block(MAIN, (9, (), (), STOP)), MAIN)
        self.assertEqual(records.put_function(MODULE, changed), (MODULE[0], (MODULE[1][0], changed)))
        self.assertIs(records.put_function(MODULE, ("none",) + MAIN[1:]), MODULE)

    def test_new_name_and_label(self):
        self.assertEqual((records.new_name(MAIN), records.new_label(MAIN)), (7, 4))
        bare = ("f", "void", True, ((5, (), (), VOID),))
        self.assertEqual((records.new_name(bare), records.new_label(bare)), (0, 6))
        odd = ("f", "void", True, ((0, ((12, "i8"),), (row("store", "i8", name=30),), ("br", (99, (("name", 88),)))),))
        self.assertEqual((records.new_name(odd), records.new_label(odd)), (31, 1))

    def test_canonical(self):
        function = ("f", "i8", True, (
            (40, ((9, "i8"),), (row("add", "i8", (("name", 9), ("name", 70)), name=5), row("store", "i8", (("name", 5), ("null",)), name=-1, place=8)),
             ("br", (7, (("name", 9),)))),
            (7, ((3, "i8"),), (), ("condbr", ("name", 5), (40, ()), (55, (("name", 3), ("global", "g"))))),
        ))
        self.assertEqual(records.canonical(function), ("f", "i8", True, (
            (0, ((0, "i8"),), (row("add", "i8", (("name", 0), ("name", 70)), name=1), row("store", "i8", (("name", 1), ("null",)), name=-1, place=8)),
             ("br", (1, (("name", 0),)))),
            (1, ((2, "i8"),), (), ("condbr", ("name", 1), (0, ()), (55, (("name", 2), ("global", "g"))))),
        )))

    def test_canonical_counts_the_first_definition(self):
        function = ("f", "void", True, (
            (8, ((4, "i8"), (6, "i8")), (row("add", "i8", (("name", 6), ("name", 4)), name=4), row("add", "i8", (), name=2)), ("br", (8, ()))),
            (8, (), (), ("br", (3, ()))),
            (3, (), (), ("ret", ("name", 2))),
        ))
        self.assertEqual(records.canonical(function), ("f", "void", True, (
            (0, ((0, "i8"), (1, "i8")), (row("add", "i8", (("name", 1), ("name", 0)), name=0), row("add", "i8", (), name=2)), ("br", (0, ()))),
            (0, (), (), ("br", (1, ()))),
            (1, (), (), ("ret", ("name", 2))),
        )))

    def test_canonical_of_a_canonical_function_is_the_same(self):
        for seed in range(60):
            module = Maker(random.Random(seed)).module()
            before = copy.deepcopy(module)
            once = records.canonical_module(module)
            self.assertEqual(module, before)
            self.assertEqual(records.canonical_module(once), once)
            self.assertEqual(once[0], module[0])
            self.assertEqual(once[1], tuple(records.canonical(function) for function in module[1]))
            for function in once[1]:
                self.assertEqual([name for name, _ in records.definitions(function)], list(range(records.new_name(function))))
                self.assertEqual([block[0] for block in function[3]], list(range(len(function[3]))))


if __name__ == "__main__":
    unittest.main()
