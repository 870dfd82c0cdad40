"""Promise 6.9: solved value tables hold, and are the least ones."""

import copy
import random
import unittest

from burnish.faults import faults
from burnish.holding import holds_values
from burnish.lattice import full, normal, refine, single, transfer, union
from burnish.parse import parse_module
from burnish.records import edges, end_operands, result_kind
from burnish.run import Machine
from burnish.scopes import operand_kind
from burnish.solve import solve_values
from burnish.words import opposite
from samples import WIDTHS, Maker
from test_bounds import big_function, shallow
from test_values import INTEGER_OPS, LOOP, LOOP_FACTS, OUTSIDE, Slow


class Rounds:
    """The equations of [6.9], applied in rounds until nothing changes."""

    def __init__(self, module, function):
        self.module, self.function = module, function
        self.slow = Slow(module, function, ((), (), ()))
        self.kinds = self.slow.kinds
        self.facts, self.escaped, self.alive = {}, set(), set()
        entry = function[3][0]
        for name, kind in entry[1]:
            self.facts[name] = (OUTSIDE,) if kind == "ptr" else full(kind)

    def thresholds(self, kind):
        top = 2 ** WIDTHS[kind] - 1
        found = {0, top // 2, top // 2 + 1, top}
        for block in self.function[3]:
            for operand in [x for row in block[2] for x in row[3]] + end_operands(block[3]):
                if operand[:2] == ("int", kind):
                    found.update(n for n in (operand[2] - 1, operand[2], operand[2] + 1) if 0 <= n <= top)
        return found

    def fact(self, operand):
        """Return the fact of an operand, None for an integer without one so far."""
        if operand[0] == "name":
            return self.facts.get(operand[1], () if self.kinds[operand[1]] == "ptr" else None)
        return self.slow.fact(operand)

    def live(self):
        found, waiting = set(), [self.function[3][0][0]]
        while waiting:
            label = waiting.pop()
            if label not in found:
                found.add(label)
                waiting += [to for slot, (to, _) in enumerate(edges(self.slow.blocks[label][3])) if (label, slot) in self.alive]
        return found

    def result(self, row):
        _, op, kind, operands, data, _ = row
        if op not in INTEGER_OPS:
            return full(kind)
        facts = [self.fact(operand) for operand in operands]
        if None in facts:
            return None
        kinds = [operand_kind(self.kinds, operand) for operand in operands]
        return transfer(op, kind, data, kinds, [None if its == "ptr" else fact for its, fact in zip(kinds, facts)])

    def sites(self, row):
        name, op, _, operands, data, _ = row
        if op == "alloca" or data == ("malloc",):
            return {("at", name)}
        if op in ("gep", "select"):
            return set(self.fact(operands[0] if op == "gep" else operands[1])) | set(self.fact(operands[-1]) if op == "select" else ())
        return {OUTSIDE}

    def along(self, block, slot):
        """Return None for an edge that is shut, else the ranges of names along it."""
        for row in block[2]:
            if row[1] in INTEGER_OPS and result_kind(row) != "ptr" and self.result(row) is None:
                return None
        end = block[3]
        if end[0] in ("condbr", "switch"):
            lo, hi = self.fact(end[1])[:2]
            values = [1, 0] if end[0] == "condbr" else [value for value, _ in end[2]]
            if lo == hi and slot != (values.index(lo) if lo in values else len(values)):
                return None
        if end[0] == "condbr":
            for row in self.slow.rows:
                if end[1] == ("name", row[0]) and row[1] == "icmp" and row[2] != "ptr":
                    x, y = row[3]
                    told = refine(row[4][0] if slot == 0 else opposite(row[4][0]), row[2], self.fact(x), self.fact(y))
                    return told and {y: told[1], x: told[0]}
        return {}

    def turn(self):
        """Apply all rules once."""
        live = self.live()
        brought = {}
        for label in live:
            block = self.slow.blocks[label]
            for row in block[2]:
                if result_kind(row) == "ptr":
                    self.facts[row[0]] = tuple(sorted(self.sites(row)))
                elif result_kind(row) != "void" and self.result(row) is not None:
                    self.facts[row[0]] = self.result(row)
            for operand in self.slow.escaping(label):
                if operand_kind(self.kinds, operand) == "ptr":
                    self.escaped.update(site[1] for site in self.fact(operand) if site[0] == "at")
            for slot, (target, args) in enumerate(edges(block[3])):
                along = self.along(block, slot)
                if along is None:
                    continue
                self.alive.add((label, slot))
                for (name, kind), operand in zip(self.slow.blocks[target][1], args):
                    fact = along.get(operand, self.fact(operand)) if operand[0] == "name" else self.fact(operand)
                    brought.setdefault(name, []).append(fact)
        for name, rows in brought.items():
            self.facts[name] = self.joined(self.kinds[name], rows)

    def joined(self, kind, rows):
        if kind == "ptr":
            return tuple(sorted({site for row in rows for site in row}))
        bounds = rows[0]
        for row in rows:
            bounds = union(bounds, row)
        if bounds[0] == bounds[1]:
            return bounds
        marks = self.thresholds(kind)
        return normal(kind, (max(n for n in marks if n <= bounds[0]), min(n for n in marks if n >= bounds[1])) + bounds[2:])

    def table(self):
        before = None
        while before != (self.facts, self.escaped, self.alive):
            before = copy.deepcopy((self.facts, self.escaped, self.alive))
            self.turn()
        live = self.live()
        dead = {(label, slot) for label, block in self.slow.blocks.items() for slot in range(len(edges(block[3])))} - self.alive
        made = {name for label in live for name, _ in self.slow.blocks[label][1]}
        made |= {row[0] for label in live for row in self.slow.blocks[label][2]}
        facts = [(name, fact) for name, fact in self.facts.items()
                 if name in made and fact != ((OUTSIDE,) if self.kinds[name] == "ptr" else full(self.kinds[name]))]
        return (tuple(sorted(dead)), tuple(sorted(self.escaped)), tuple(sorted(facts)))


class SolveTest(unittest.TestCase):

    def look(self, text, table, name="main"):
        module = parse_module(text)
        self.assertEqual(faults(module), [])
        function = [function for function in module[1] if function[0] == name][0]
        self.assertEqual(solve_values(module, function), table)
        self.assertIs(holds_values(module, function, table), True)
        self.assertEqual(Rounds(module, function).table(), table)

    def test_document_example(self):
        self.assertEqual(solve_values(LOOP, LOOP[1][0]), ((), (), LOOP_FACTS))

    def test_forks(self):
        text = ("export main i32 {{ 0(): $0 = call i32 get() !1 $1 = icmp {} i32 $0, i32 10 condbr $1, 1($0), 2($0) "
                "1($2 i32): br 3($2) 2($3 i32): br 3(i32 20) 3($4 i32): ret $4 }}")
        top = 2 ** 32 - 1
        self.look(text.format("ult"), ((), (), ((2, (0, 9, top - 15, 0)), (3, (10, top, 0, 0)), (4, (0, 20, top - 31, 0)))))
        self.look(text.format("eq"), ((), (), ((2, single("i32", 10)), (4, (10, 20, top - 30, 0)))))
        # 0 <= x holds always, so one edge is never taken.
        self.look("export main i32 { 0(): $0 = call i32 get() !1 $1 = icmp uge i32 $0, i32 0 condbr $1, 1(), 2() "
                  "1(): ret i32 1 2(): $2 = add i32 $0, i32 1 br 3() 3(): ret i32 0 }",
                  (((0, 1), (2, 0)), (), ((1, single("i1", 1)),)))

    def test_constants_that_meet_stay_single(self):
        self.look("export main i32 { 0(): $0 = call i32 get() !1 $1 = trunc i1 $0 condbr $1, 1(i8 77), 1(i8 77) 1($2 i8): "
                  "$3 = add i8 $2, i8 1 $4 = zext i32 $3 ret $4 }",
                  ((), (), ((2, single("i8", 77)), (3, single("i8", 78)), (4, single("i32", 78)))))

    def test_switches(self):
        text = ("export main i32 {{ 0(): switch {}, 1: 1(i8 5), 3: 1(i8 6), else 1(i8 7) 1($0 i8): ret i32 0 }}")
        self.look(text.format("i8 1"), (((0, 1), (0, 2)), (), ((0, single("i8", 5)),)))
        self.look(text.format("i8 3"), (((0, 0), (0, 2)), (), ((0, single("i8", 6)),)))
        self.look(text.format("i8 4"), (((0, 0), (0, 1)), (), ((0, single("i8", 7)),)))
        self.look("export main i32 { 0(): $0 = call i32 get() !1 switch $0, 1: 1($0), else 1(i32 1) 1($1 i32): ret i32 0 }", ((), (), ()))

    def test_loops(self):
        # The inner loop begins anew each time; what the outer one counts is passed on as what it is compared as.
        self.look("export main i32 { 0(): br 1(i8 0) 1($0 i8): $1 = icmp ult i8 $0, i8 10 condbr $1, 2(i8 0, $0), 5() "
                  "2($2 i8, $6 i8): $3 = icmp ult i8 $2, i8 20 condbr $3, 3($2, $6), 4($6) 3($7 i8, $8 i8): $4 = add i8 $7, i8 1 br 2($4, $8) "
                  "4($9 i8): $5 = add i8 $9, i8 1 br 1($5) 5(): ret i32 0 }",
                  ((), (), ((0, (0, 10, 240, 0)), (2, (0, 20, 224, 0)), (4, (1, 20, 224, 0)), (5, (1, 10, 240, 0)), (6, (0, 9, 240, 0)),
                            (7, (0, 19, 224, 0)), (8, (0, 9, 240, 0)), (9, (0, 9, 240, 0)))))
        # A use in a block is not refined, only an argument of an edge.
        self.look("export main i32 { 0(): br 1(i8 0) 1($0 i8): $1 = icmp ult i8 $0, i8 10 condbr $1, 2(), 3() 2(): $2 = add i8 $0, i8 1 "
                  "br 1($2) 3(): ret i32 0 }", ((), (), ()))
        # The argument for itself is no news.
        self.look("export main i32 { 0(): $1 = call i32 get() !1 $2 = trunc i1 $1 br 1(i8 3) 1($0 i8): condbr $2, 1($0), 2() 2(): ret i32 0 }",
                  ((), (), ((0, single("i8", 3)),)))

    def test_what_an_edge_tells_by_the_other_operand(self):
        # What 8 is less than grows in the loop, while the result of the comparison stays as it is.
        self.look("export main i32 { 0(): $9 = call i32 get() !1 $8 = trunc i8 $9 br 1(i8 5) 1($0 i8): $1 = icmp ult i8 $8, $0 condbr $1, 2($8), 3() 2($2 i8): $3 = add i8 $0, i8 1 br 1($3) 3(): ret i32 0 }",
                  ((), (), ()))

    def test_what_traps_only_at_first(self):
        # The division is looked at with 0 before the loop brings other divisors.
        self.look("export main i32 { 0(): $9 = call i32 get() !1 $8 = icmp eq i32 $9, i32 0 br 1(i8 0) 1($0 i8): condbr $8, 2(), 3() 2(): $1 = add i8 $0, i8 1 br 1($1) "
                  "3(): $2 = udiv i8 i8 9, $0 !2 $3 = add i8 $2, i8 1 $4 = add i8 $3, i8 1 $5 = add i8 $4, i8 1 br 4() 4(): ret i32 0 }",
                  ((), (), ((2, (0, 9, 240, 0)), (3, (1, 10, 240, 0)), (4, (2, 11, 240, 0)), (5, (3, 12, 240, 0)))))

    def test_thresholds(self):
        # A single value stays, though it is no threshold; the least and the greatest value always are.
        self.look("export main i32 { 0(): $0 = add i8 i8 30, i8 40 br 1($0) 1($1 i8): ret i32 0 }", ((), (), ((0, single("i8", 70)), (1, single("i8", 70)))))
        self.look("export main i32 { 0(): $0 = call i32 get() !1 $1 = trunc i8 $0 $2 = and i8 $1, i8 24 br 1($2) 1($3 i8): $4 = or i8 $1, i8 224 br 2($4) 2($5 i8): ret i32 0 }",
                  ((), (), ((2, (0, 24, 231, 0)), (3, (0, 24, 231, 0)), (4, (224, 255, 0, 224)), (5, (224, 255, 0, 224)))))
        self.look("export main i32 { 0(): $0 = call i32 get() !1 $1 = icmp eq i32 $0, i32 0 condbr $1, 1(i8 3), 1(i8 60) 1($2 i8): $3 = mul i8 $2, i8 2 br 2($3) 2($4 i8): ret i32 0 }",
                  ((), (), ((2, (3, 60, 192, 0)), (3, (6, 120, 128, 0)), (4, (4, 127, 128, 0)))))

    def test_what_always_traps(self):
        self.look("export main i32 { 0(): $0 = call i32 get() !1 $1 = udiv i32 $0, i32 0 !2 br 1() 1(): ret i32 0 }", (((0, 0),), (), ()))
        self.look("export main i32 { 0(): br 1(i32 0) 1($0 i32): $1 = udiv i32 i32 5, $0 !2 br 2() 2(): ret i32 0 }",
                  (((1, 0),), (), ((0, single("i32", 0)),)))

    def test_pointers(self):
        text = ("global g 1 internal f i32 { 7($0 ptr, $1 i8): $2 = alloca 4 $3 = alloca 4 $4 = call ptr malloc(i64 8) !1 "
                "store ptr $3, @g !2 $5 = icmp eq i8 $1, i8 0 condbr $5, 8($2), 8($4) 8($6 ptr): $7 = gep $6, 1 "
                "$8 = select ptr $5, $7, @g call void free($8) !3 $9 = load ptr $7 !4 ret i32 0 } export main i32 { 0(): ret i32 0 }")
        at = [("at", k) for k in range(10)]
        g = ("global", "g")
        self.look(text, ((), (3,), ((2, (at[2],)), (3, (at[3],)), (4, (at[4],)), (6, (at[2], at[4])), (7, (at[2], at[4])),
                                    (8, (at[2], at[4], g)))), "f")

    def test_escapes(self):
        head = "global g 0 0 0 0 0 0 0 0 internal f ptr { 0($0 ptr): ret $0 } "
        for rows, escapes in (("store ptr $0, @g !1", True), ("$1 = call ptr f($0) !1", True), ("call void free($0) !1", False),
                              ("store i8 i8 1, $0 !1", False), ("kill $0", False)):
            self.look(head + "export main i32 { 0(): $0 = alloca 4 " + rows + " ret i32 0 }", ((), (0,) if escapes else (), ((0, (("at", 0),)),)))
        # In a block that is not live nothing escapes.
        self.look(head + "export main i32 { 0(): $0 = alloca 4 condbr i1 1, 1(), 2() 1(): ret i32 0 2(): store ptr $0, @g !1 br 1() }",
                  (((0, 1), (2, 0)), (), ((0, (("at", 0),)),)))
        # The pointer is stored before the loop brings the alloca to it.
        self.look("global g 0 0 0 0 0 0 0 0 export main i32 { 0(): br 1(null) 1($0 ptr): $1 = gep $0, 1 store ptr $1, @g !1 $2 = load i1 @g !2 condbr $2, 2(), 3() "
                  "2(): $3 = alloca 4 br 1($3) 3(): ret i32 0 }",
                  ((), (3,), ((0, (("at", 3),)), (1, (("at", 3),)), (3, (("at", 3),)))))
        # null has no sites, and a pointer that is null alone keeps its empty fact.
        self.look("export main i32 { 0(): br 1(null) 1($0 ptr): $1 = gep $0, 4 ret i32 0 }", ((), (), ((0, ()), (1, ()))))


class RandomTest(unittest.TestCase):

    def samples(self):
        for seed in range(400):
            rnd = random.Random(seed)
            kinds = rnd.choice((("i8",), ("i1", "i8", "ptr"), ("i1", "i8", "i16", "i32", "i64", "ptr"), ("i16", "i64")))
            yield seed, Maker(rnd, blocks=rnd.choice((3, 6, 10)), rows=rnd.choice((2, 6)), kinds=kinds).module()

    def test_least_table_and_it_holds(self):
        sizes = 0
        for seed, module in self.samples():
            for function in module[1]:
                before = copy.deepcopy(function)
                table = solve_values(module, function)
                self.assertEqual(function, before)
                self.assertIs(holds_values(module, function, table), True)
                self.assertTrue(Rounds(module, function).table() == table, seed)
                self.look_at_rest(function, table)
                sizes += len(table[0]) + len(table[1]) + len(table[2])
        self.assertGreater(sizes, 2000)

    def look_at_rest(self, function, table):
        """Look that the table says nothing of labels that are not live, and nothing that needs no saying."""
        slow = Slow(((), ()), function, table)
        live = slow.live()
        made = {name for label in live for name, _ in slow.blocks[label][1]} | {row[0] for label in live for row in slow.blocks[label][2]}
        for name, fact in table[2]:
            self.assertIn(name, made)
            self.assertNotEqual(fact, (OUTSIDE,) if slow.kinds[name] == "ptr" else full(slow.kinds[name]))

    def test_tables_are_true_of_runs(self):
        for seed, module in list(self.samples())[:150]:
            tables = {function[0]: dict(solve_values(module, function)[2]) for function in module[1]}
            machine = Machine(module, [seed % 256, 3])
            while machine.end == ("none",) and machine.steps < 100:
                for name, _, _, values, _ in machine.state[0]:
                    for n, value in values.items():
                        if n in tables[name] and isinstance(value, int):
                            lo, hi, zeros, ones = tables[name][n]
                            self.assertTrue(lo <= value <= hi and not value & zeros and value & ones == ones)
                machine.go(fuel=1)


class BoundsTest(unittest.TestCase):

    def test_greatest_function(self):
        function = big_function()
        table = shallow(lambda: solve_values(((), (function,)), function))
        self.assertIs(shallow(lambda: holds_values(((), (function,)), function, table)), True)

    def test_long_loop(self):
        rows = tuple((k, "add", "i32", (("name", k - 1), ("int", "i32", k % 7)), (), -1) for k in range(1, 19000))
        blocks = ((0, (), (), ("br", (1, (("int", "i32", 0),)))), (1, ((0, "i32"),), rows, ("br", (1, (("name", 18999),)))))
        function = ("main", "i32", False, blocks)
        self.assertEqual(shallow(lambda: solve_values(((), (function,)), function)), ((), (), ()))

    def test_many_pointers(self):
        rows = tuple((k, "alloca", "ptr", (), (8,), -1) for k in range(10000))
        rows += tuple((k + 10000, "select", "ptr", (("int", "i1", 1), ("name", k), ("null",)), (), -1) for k in range(10000))
        function = ("main", "i32", False, ((0, (), rows, ("ret", ("int", "i32", 0))),))
        table = shallow(lambda: solve_values(((), (function,)), function))
        self.assertEqual(table[2][-1], (19999, (("at", 9999),)))

    def test_many_pointers_around_loops(self):
        blocks = [(0, (), ((0, "alloca", "ptr", (), (8,), -1),), ("br", (1, (("name", 0),))))]
        last = 999
        for label in range(1, last + 1):
            param = 4 * label
            rows = ((param + 1, "alloca", "ptr", (), (8,), -1), (param + 2, "load", "i1", (("name", param + 1),), (), -1))
            operands = tuple(("name", param + k) for k in (2, 0, 1))
            rows += ((param + 3, "select", "ptr", operands, (), -1),)
            ahead, back = [(to, (("name", param + 3),)) for to in (min(label + 1, last), max(label - 2, 1))]
            blocks.append((label, ((param, "ptr"),), rows, ("condbr", ("name", param + 2), ahead, back)))
        function = ("main", "i32", False, tuple(blocks))
        table = shallow(lambda: solve_values(((), (function,)), function))
        facts = dict(table[2])
        every = (("at", 0),) + tuple(("at", 4 * label + 1) for label in range(1, last + 1))
        self.assertEqual([facts[4 * label] for label in (1, 500, last)], [every, every, every])
        self.assertIs(shallow(lambda: holds_values(((), (function,)), function, table)), True)


if __name__ == "__main__":
    unittest.main()
