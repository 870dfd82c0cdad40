"""Promise 6.15: equation tables."""

import copy
import random
import unittest

from burnish.equations import holds_equations, solve_equations
from burnish.faults import faults
from burnish.parse import parse_module
from burnish.records import edges
from burnish.run import Machine
from burnish.scopes import kinds_of, operand_kind
from samples import Maker
from shaped import Shaper
from test_bounds import big_function, shallow


class Slow:
    """The rules of an equation table, sentence by sentence."""

    def __init__(self, function):
        self.function = function
        self.kinds = kinds_of(function)
        self.params, self.rows = {}, {}
        for block in function[3]:
            for k, (name, _) in enumerate(block[1]):
                self.params[name] = (block[0], k)
            for row in block[2]:
                if row[0] != -1:
                    self.rows[row[0]] = row

    def agree(self, table, a, b):
        return a == b or a[0] == b[0] == "name" and any(a[1] in row and b[1] in row for row in table)

    def same(self, table, x, y):
        """Tell whether two names may be in one class."""
        if self.kinds[x] != self.kinds[y]:
            return False
        if x in self.params and y in self.params:
            (label, i), (other, j) = self.params[x], self.params[y]
            if label != other or label == self.function[3][0][0]:
                return False
            brought = [args for block in self.function[3] for target, args in edges(block[3]) if target == label]
            return all(self.agree(table, args[i], args[j]) for args in brought)
        if x not in self.rows or y not in self.rows:
            return False
        a, b = self.rows[x], self.rows[y]
        if a[1] in ("alloca", "load", "call") or a[1] != b[1] or a[2] != b[2] or a[4] != b[4] or len(a[3]) != len(b[3]):
            return False
        return all(self.agree(table, p, q) for p, q in zip(a[3], b[3]))

    def holds(self, table):
        return all(self.same(table, x, y) for row in table for x in row for y in row)

    def may(self, x):
        return x in self.params and self.params[x][0] != self.function[3][0][0] or x in self.rows and self.rows[x][1] not in ("alloca", "load", "call")

    def first(self):
        """Return the classes to start with."""
        found = {}
        for name in self.kinds:
            if not self.may(name):
                continue
            if name in self.params:
                key = (self.params[name][0], self.kinds[name])
            else:
                row = self.rows[name]
                key = (row[1], row[2], row[4], tuple(operand_kind(self.kinds, operand) for operand in row[3]))
            found.setdefault(key, []).append(name)
        return [tuple(sorted(row)) for row in found.values()]

    def coarsest(self):
        table = self.first()
        changed = True
        while changed:
            changed = False
            parts = []
            for row in table:
                groups = []
                for name in row:
                    for group in groups:
                        if self.same(table, group[0], name):
                            group.append(name)
                            break
                    else:
                        groups.append([name])
                changed = changed or len(groups) > 1
                parts.extend(tuple(group) for group in groups)
            table = parts
        return tuple(sorted(row for row in table if len(row) > 1))


class EquationsTest(unittest.TestCase):

    def look(self, text, *expected, head=""):
        module = parse_module(head + "export main i32 { " + text + " }")
        self.assertEqual(faults(module), [])
        function = module[1][-1]
        table = solve_equations(function)
        self.assertEqual(table, expected)
        self.assertEqual(Slow(function).coarsest(), table)
        self.assertIs(holds_equations(function, table), True)
        return function

    def test_instructions(self):
        rows = "0(): $0 = call i32 get() !1 $1 = call i32 get() !2 "
        for op in ("add", "sub", "mul", "and", "or", "xor", "shl", "lshr", "ashr"):
            self.look(rows + f"$2 = {op} i32 $0, $1 $3 = {op} i32 $0, $1 $4 = {op} i32 $1, $0 ret i32 0", (2, 3))
        for op in ("udiv", "sdiv", "urem", "srem"):
            # The places of divisions do not count.
            self.look(rows + f"$2 = {op} i32 $0, $1 !3 $3 = {op} i32 $0, $1 !4 ret i32 0", (2, 3))
        self.look(rows + "$2 = icmp ult i32 $0, $1 $3 = icmp ult i32 $0, $1 $4 = icmp ule i32 $0, $1 ret i32 0", (2, 3))
        self.look(rows + "$2 = trunc i8 $0 $3 = trunc i8 $0 $4 = trunc i16 $0 $5 = trunc i8 $4 ret i32 0", (2, 3))
        self.look(rows + "$2 = zext i64 $0 $3 = zext i64 $0 $4 = sext i64 $0 ret i32 0", (2, 3))
        self.look(rows + "$2 = select i32 i1 1, $0, $1 $3 = select i32 i1 1, $0, $1 $4 = select i32 i1 0, $0, $1 ret i32 0", (2, 3))
        self.look(rows + "$2 = gep @g, 4 $3 = gep @g, 4 $4 = gep @g, 5 $5 = gep @g, 4, i64 0 * 1 ret i32 0", (2, 3), head="global g 1 ")

    def test_leaves_are_never_equal(self):
        self.look("0(): $0 = call i32 get() !1 $1 = call i32 get() !1 $2 = alloca 4 $3 = alloca 4 $4 = load i8 @g !2 $5 = load i8 @g !2 "
                  "$6 = call ptr malloc(i64 1) !3 $7 = call ptr malloc(i64 1) !3 ret i32 0", head="global g 1 ")

    def test_chains(self):
        self.look("0(): $0 = call i32 get() !1 $1 = add i32 $0, i32 1 $2 = add i32 $0, i32 1 $3 = mul i32 $1, i32 3 $4 = mul i32 $2, i32 3 "
                  "$5 = sub i32 $3, $2 $6 = sub i32 $4, $1 $7 = sub i32 $4, $0 ret i32 0", (1, 2), (3, 4), (5, 6))

    def test_constants_of_kinds(self):
        self.look("0(): $0 = zext i32 i8 1 $1 = zext i32 i16 1 $2 = zext i32 i8 1 ret i32 0", (0, 2))

    def test_params(self):
        self.look("0(): $0 = call i32 get() !1 $1 = icmp eq i32 $0, i32 0 condbr $1, 1(i32 1, i32 1, i32 1), 1(i32 2, i32 2, i32 3) "
                  "1($2 i32, $3 i32, $4 i32): $5 = add i32 $2, i32 1 $6 = add i32 $3, i32 1 ret i32 0", (2, 3), (5, 6))
        # Params of two blocks, and of the entry, are not equal.
        self.look("0(): br 1(i32 1) 1($0 i32): br 2(i32 1) 2($1 i32): ret i32 0")
        module = parse_module("internal f i32 { 0($0 i32, $1 i32): ret i32 0 } export main i32 { 0(): $0 = call i32 f(i32 1, i32 1) !1 ret i32 0 }")
        self.assertEqual(solve_equations(module[1][0]), ())
        self.assertIs(holds_equations(module[1][0], ((0, 1),)), False)

    def test_loops(self):
        # Two counters that go the same way are taken for equal until shown otherwise.
        self.look("0(): br 1(i32 0, i32 0) 1($0 i32, $1 i32): $2 = add i32 $0, i32 1 $3 = add i32 $1, i32 1 $4 = icmp ult i32 $2, i32 9 "
                  "condbr $4, 1($2, $3), 2() 2(): ret $0", (0, 1), (2, 3))
        self.look("0(): br 1(i32 0, i32 0) 1($0 i32, $1 i32): $2 = add i32 $0, i32 1 $3 = add i32 $1, i32 2 $4 = icmp ult i32 $2, i32 9 "
                  "condbr $4, 1($2, $3), 2() 2(): ret $0")
        self.look("0(): br 1(i32 0, i32 1) 1($0 i32, $1 i32): $2 = add i32 $0, i32 1 $3 = add i32 $1, i32 1 $4 = icmp ult i32 $2, i32 9 "
                  "condbr $4, 1($2, $3), 2() 2(): ret $0")
        # Each is passed on as the other one.
        self.look("0(): br 1(i32 0, i32 0) 1($0 i32, $1 i32): br 1($1, $0)", (0, 1))

    def test_edges_from_blocks_that_are_not_reached_count(self):
        self.look("0(): br 1(i32 0, i32 0) 1($0 i32, $1 i32): ret $0 2(): br 1(i32 1, i32 2)")
        self.look("0(): ret i32 0 1($0 i32, $1 i32, $2 i8): ret $0", (0, 1))

    def test_tables_that_hold(self):
        function = self.look("0(): $0 = call i32 get() !1 $1 = add i32 $0, i32 1 $2 = add i32 $0, i32 1 $3 = add i32 $0, i32 1 "
                             "$4 = neg ret i32 0".replace("$4 = neg", "$4 = mul i32 $1, i32 2 $5 = mul i32 $2, i32 2"), (1, 2, 3), (4, 5))
        for table in ((), ((1, 2),), ((1, 3),), ((2, 3),), ((1, 2, 3),), ((1, 2), (4, 5)), ((1, 2, 3), (4, 5))):
            self.assertIs(holds_equations(function, table), True, table)
        for table in (((4, 5),), ((1, 3), (4, 5)), ((0, 1),), ((1, 4),), ((1, 2, 3, 4),)):
            self.assertIs(holds_equations(function, table), False, table)

    def test_forms(self):
        function = self.look("0(): $0 = call i32 get() !1 $1 = add i32 $0, i32 1 $2 = add i32 $0, i32 1 $3 = or i32 $0, i32 1 $4 = or i32 $0, i32 1 "
                             "ret i32 0", (1, 2), (3, 4))
        for table in (None, True, 1, "x", [(1, 2)], ([1, 2],), (1, 2), ((1,),), ((),), ((2, 1),), ((1, 1),), ((3, 4), (1, 2)), ((1, 2), (1, 2)),
                      ((1, 2), (2, 3)), ((1, True),), ((1, "2"),), ((1, 9),), ((8, 9),), ((-1, 1),), ((1, (2,)),), ((1, None),)):
            self.assertIs(holds_equations(function, table), False, table)
        self.assertIs(holds_equations(function, ((1, 2),)), True)

    def samples(self, count):
        for seed in range(count):
            rnd = random.Random(seed)
            module = Shaper(rnd).module() if seed % 2 else Maker(rnd, blocks=8, kinds=rnd.choice((("i8",), ("i1", "i8", "ptr")))).module()
            for function in module[1]:
                yield rnd, module, function

    def test_random_functions(self):
        sizes = 0
        for _, _, function in self.samples(300):
            before = copy.deepcopy(function)
            table = solve_equations(function)
            self.assertEqual(function, before)
            slow = Slow(function)
            self.assertEqual(slow.coarsest(), table)
            self.assertIs(holds_equations(function, table), True)
            sizes += len(table)
        self.assertGreater(sizes, 200)

    def test_random_tables(self):
        counts = [0, 0]
        for rnd, _, function in self.samples(200):
            names = sorted(kinds_of(function))
            slow = Slow(function)
            solved = solve_equations(function)
            for _ in range(8):
                told = [tuple(name for name in row if rnd.random() < 0.8) for row in solved]
                if rnd.random() < 0.6 and len(names) > 1:
                    told.append(tuple(sorted(rnd.sample(names, 2))))
                table = tuple(sorted(row for row in told if len(row) > 1))
                flat = [name for row in table for name in row]
                due = len(flat) == len(set(flat)) and slow.holds(table)
                self.assertIs(holds_equations(function, table), due)
                counts[due] += 1
        self.assertGreater(min(counts), 100)

    def test_tables_are_true_of_runs(self):
        looked_at = 0
        for seed in range(150):
            module = Shaper(random.Random(seed)).module()
            told = {function[0]: (solve_equations(function), Slow(function)) for function in module[1]}
            machine = Machine(module, [65, 0, 1])
            while machine.end == ("none",) and machine.steps < 300:
                name, label, at, known, _ = machine.state[0][-1]
                table, slow = told[name]
                for row in table:
                    # Names of one block, ahead of the position, are defined anew whenever the block is entered.
                    here = [n for n in row if slow.params.get(n, (None,))[0] == label or any(
                        other[0] == n for block in slow.function[3] if block[0] == label for other in block[2][:at])]
                    for n in here[1:]:
                        self.assertEqual(known[n], known[here[0]])
                        looked_at += 1
                machine.go(fuel=1)
        self.assertGreater(looked_at, 30)


class BoundsTest(unittest.TestCase):

    def test_greatest_functions(self):
        function = big_function()
        table = shallow(lambda: solve_equations(function))
        self.assertIs(shallow(lambda: holds_equations(function, table)), True)
        rows = ((0, "call", "i32", (), ("get",), 1),)
        rows += tuple((k, "add", "i32", (("name", max(k - 2, 0)), ("int", "i32", 1)), (), -1) for k in range(1, 20000))
        long = ("main", "i32", False, ((0, (), rows, ("ret", ("int", "i32", 0))),))
        table = shallow(lambda: solve_equations(long))
        self.assertEqual(table[:2], ((1, 2), (3, 4)))
        self.assertEqual(len(table), 9999)
        self.assertIs(shallow(lambda: holds_equations(long, table)), True)

    def test_many_edges(self):
        params = tuple((k, "i8") for k in range(64))
        args = tuple(("int", "i8", k % 3) for k in range(64))
        blocks = ((0, (), (), ("br", (2, ()))),)
        blocks += ((1, params, (), ("ret", ("int", "i32", 0))),)
        blocks += tuple((k, (), (), ("condbr", ("int", "i1", 1), (1, args), (min(k + 1, 1999), ()))) for k in range(2, 2000))
        function = ("main", "i32", False, blocks)
        self.assertEqual([len(row) for row in shallow(lambda: solve_equations(function))], [22, 21, 21])


if __name__ == "__main__":
    unittest.main()
