"""Promise 6.18: demand tables, and the example behind it."""

import copy
import random
import unittest

from burnish.demand import holds_demand, solve_demand
from burnish.equations import solve_equations
from burnish.faults import faults
from burnish.parse import parse_module
from burnish.records import edges, end_operands
from burnish.scopes import kinds_of, operand_kind
from burnish.solve import solve_values
from burnish.values import live_labels
from samples import WIDTHS, Maker
from shaped import Shaper
from test_bounds import big_function, shallow
from test_values import LOOP, LOOP_FACTS

PURE = ("add", "sub", "mul", "and", "or", "xor", "shl", "lshr", "ashr", "icmp", "select", "trunc", "zext", "sext", "gep")


class Slow:
    """What each use demands, bit by bit and sentence by sentence."""

    def __init__(self, function, values):
        self.function, self.values = function, values
        self.kinds = kinds_of(function)
        self.blocks = {block[0]: block for block in function[3]}

    def all_of(self, kind):
        return 1 if kind == "ptr" else 2 ** WIDTHS[kind] - 1

    def demands(self, masks):
        """Return the list of (name, mask) of all uses in live blocks."""
        found = []
        for label in live_labels(self.function, self.values[0]):
            _, _, body, end = self.blocks[label]
            for row in body:
                for at, operand in enumerate(row[3]):
                    found.append((operand, self.of(row, at, masks)))
            count = 1 if end[0] in ("condbr", "switch") or end[0] == "ret" and end[1] is not None else 0
            for operand in end_operands(end)[:count]:
                found.append((operand, self.all_of(operand_kind(self.kinds, operand))))
            for slot, (target, args) in enumerate(edges(end)):
                if (label, slot) not in self.values[0]:
                    found += [(operand, masks[name]) for (name, _), operand in zip(self.blocks[target][1], args)]
        return [(operand[1], mask) for operand, mask in found if operand[0] == "name"]

    def of(self, row, at, masks):
        name, op, kind, operands, _, _ = row
        old = operand_kind(self.kinds, operands[at])
        every = self.all_of(old)
        if op not in PURE:
            return every
        m = masks[name]
        if m == 0:
            return 0
        other = operands[1 - at] if len(operands) == 2 else None
        c = other[2] if other is not None and other[0] == "int" else None
        if op == "and":
            return m if c is None else m & c
        if op == "or":
            return m if c is None else m & ~c
        if op == "xor" or op == "select" and at > 0 or op == "trunc":
            return m
        if op in ("add", "sub", "mul"):
            return 2 ** m.bit_length() - 1
        if op in ("shl", "lshr", "ashr") and at == 0 and c is not None and c < WIDTHS[kind]:
            w = WIDTHS[kind]
            if op == "shl":
                return sum(1 << bit for bit in range(w) if bit + c < w and m >> bit + c & 1)
            wanted = sum(1 << bit for bit in range(w) if bit >= c and m >> bit - c & 1)
            return wanted | 1 << w - 1 if op == "ashr" and any(m >> bit & 1 for bit in range(w - c, w)) else wanted
        if op in ("zext", "sext"):
            w = WIDTHS[old]
            return m % 2 ** w | (1 << w - 1 if op == "sext" and m >= 2 ** w else 0)
        return every

    def holds(self, table):
        masks = {name: self.all_of(kind) for name, kind in self.kinds.items()}
        masks.update(table)
        return all(mask & ~masks[name] == 0 for name, mask in self.demands(masks))

    def least(self):
        masks = dict.fromkeys(self.kinds, 0)
        before = None
        while before != masks:
            before = dict(masks)
            for name, mask in self.demands(masks):
                masks[name] |= mask
        return tuple(sorted(masks.items()))


class DemandTest(unittest.TestCase):

    def look(self, rows, demand, **masks):
        """Look at the least table of a main that puts the low bits that are demanded of $9 and $8."""
        module = parse_module("global g 1 2 3 4 5 6 7 8 internal h i8 { 0($0 i8): ret $0 } export main i32 { 0(): $0 = call i32 get() !1 $1 = trunc i8 $0 $2 = trunc i1 $0 "
                              + rows + " ret i32 0 }")
        self.assertEqual(faults(module), [])
        function = module[1][-1]
        values = solve_values(module, function)
        table = solve_demand(function, values)
        self.assertEqual(Slow(function, values).least(), table)
        self.assertIs(holds_demand(function, values, table), True)
        for name, mask in demand.items():
            self.assertEqual(dict(table)[name], mask, (rows, name))

    def masked(self, rows, mask, *demanded):
        """Look what is demanded of $1 (and $3) if a mask of $5 is, as rows make it."""
        stored = f"$3 = call i8 h($1) !4 {rows} $6 = and i8 $5, i8 {mask} store i8 $6, @g !9"
        self.look(stored.replace("call i8 h($1)", "load i8 @g"), dict(zip((1, 3), demanded)))

    def test_bit_operations(self):
        self.masked("$5 = and i8 $1, i8 60", 24, 24)
        self.masked("$5 = and i8 $1, i8 60", 7, 4)
        self.masked("$5 = and i8 i8 60, $1", 7, 4)
        self.masked("$5 = and i8 $1, $3", 7, 7, 7)
        self.masked("$5 = or i8 $1, i8 60", 7, 3)
        self.masked("$5 = or i8 i8 60, $1", 7, 3)
        self.masked("$5 = or i8 $1, $3", 7, 7, 7)
        self.masked("$5 = xor i8 $1, i8 60", 7, 7)
        self.masked("$5 = xor i8 $1, $3", 7, 7, 7)
        self.masked("$5 = select i8 $2, $1, $3", 7, 7, 7)

    def test_arithmetic(self):
        for op in ("add", "sub", "mul"):
            for mask, wanted in ((1, 1), (4, 7), (5, 7), (128, 255), (255, 255), (96, 127)):
                self.masked(f"$5 = {op} i8 $1, $3", mask, wanted, wanted)
        for op in ("udiv", "sdiv", "urem", "srem"):
            self.masked(f"$5 = {op} i8 $1, $3 !7", 1, 255, 255)

    def test_shifts(self):
        self.masked("$5 = shl i8 $1, i8 3", 9, 1)
        self.masked("$5 = shl i8 $1, i8 3", 7, 0)
        self.masked("$5 = lshr i8 $1, i8 3", 9, 72)
        self.masked("$5 = lshr i8 $1, i8 3", 240, 128)
        self.masked("$5 = lshr i8 $1, i8 3", 224, 0)
        self.masked("$5 = ashr i8 $1, i8 3", 9, 72)
        self.masked("$5 = ashr i8 $1, i8 3", 16, 128)
        self.masked("$5 = ashr i8 $1, i8 3", 32, 128)
        self.masked("$5 = ashr i8 $1, i8 3", 128, 128)
        self.masked("$5 = ashr i8 $1, i8 0", 64, 64)
        for op in ("shl", "lshr", "ashr"):
            self.masked(f"$5 = {op} i8 $1, $3", 1, 255, 255)
            self.masked(f"$5 = {op} i8 $1, i8 8", 1, 255)
            self.masked(f"$5 = {op} i8 i8 8, $1", 1, 255)

    def test_casts(self):
        wide = "$4 = {} i32 $1 $5 = and i32 $4, i32 {} store i32 $5, @g !9"
        for op, mask, wanted in (("zext", 3840, 0), ("zext", 0x1F3, 0xF3), ("zext", 128, 128), ("sext", 3840, 128), ("sext", 3, 3), ("sext", 128, 128), ("sext", 0x103, 0x83)):
            self.look(wide.format(op, mask), {1: wanted})
        self.look("$4 = trunc i8 $0 $5 = and i8 $4, i8 9 store i8 $5, @g !9", {0: 1 | 9, 1: 0, 2: 0})

    def test_comparisons_and_conditions(self):
        self.look("$5 = icmp eq i8 $1, i8 0 store i1 $5, @g !9", {1: 255, 5: 1})
        self.look("$5 = icmp eq i8 $1, i8 0", {1: 0, 5: 0})
        self.look("$3 = load i8 @g !9 $5 = select i8 $2, $1, $3 $6 = and i8 $5, i8 1 store i8 $6, @g !9", {2: 1, 1: 1, 3: 1})

    def test_pointers(self):
        self.look("$5 = alloca 4 $6 = zext i64 $0 $7 = gep $5, 0, $6 * 1 store i8 i8 1, $7 !9", {5: 1, 6: 2 ** 64 - 1, 7: 1})
        self.look("$5 = alloca 4 $6 = zext i64 $0 $7 = gep $5, 0, $6 * 1", {5: 0, 6: 0, 7: 0})
        self.look("$5 = alloca 4 $6 = icmp eq ptr $5, null store i1 $6, @g !9", {5: 1})
        self.look("$5 = alloca 4 $6 = select ptr $2, $5, null kill $6", {5: 1, 6: 1, 2: 1})

    def test_every_other_use(self):
        for row in ("store i8 $1, @g !9", "$5 = call i8 h($1) !9", "$5 = udiv i8 $1, i8 3 !9"):
            self.look(row, {1: 255})
        self.look("$5 = alloca 1 kill $5", {5: 1})
        self.look("$5 = alloca 1 $6 = load i8 $5 !9", {5: 1, 6: 0})
        self.look("$5 = zext i64 $1 $6 = call ptr malloc($5) !9", {5: 2 ** 64 - 1, 1: 255})

    def test_ends_and_edges(self):
        text = ("export main i32 {{ 0(): $0 = call i32 get() !1 $1 = trunc i8 $0 {} 1($2 i8, $3 i8): $4 = and i8 $2, i8 12 $5 = zext i32 $4 ret $5 2(): ret $0 }}")
        for end, mask in (("br 1($1, $1)", 12), ("condbr i1 1, 1($1, $1), 1(i8 1, $1)", 12), ("condbr i1 0, 1($1, $1), 1(i8 1, $1)", 0),
                          ("switch $1, 3: 1(i8 1, i8 2), else 2()", 255)):
            module = parse_module(text.format(end))
            self.assertEqual(faults(module), [])
            values = solve_values(module, module[1][0])
            table = dict(solve_demand(module[1][0], values))
            self.assertEqual(table[1], mask)
            self.assertEqual(table[3], 0)
            self.assertEqual(table[0], 2 ** 32 - 1 if end[0] == "s" else mask)

    def test_loops(self):
        module = parse_module("export main i32 { 0(): br 1(i32 0, i32 0) 1($0 i32, $1 i32): $2 = add i32 $0, i32 1 $3 = add i32 $1, $0 $4 = call i32 get() !1 "
                              "$5 = icmp eq i32 $4, i32 0 condbr $5, 1($2, $3), 2() 2(): $6 = and i32 $0, i32 4 ret $6 }")
        function = module[1][0]
        self.assertEqual(solve_demand(function, solve_values(module, function)),
                         ((0, 7), (1, 0), (2, 7), (3, 0), (4, 2 ** 32 - 1), (5, 1), (6, 2 ** 32 - 1)))

    def test_entries_for_all_names(self):
        module = parse_module("export main i32 { 0(): ret i32 0 1($1 i8): $2 = add i8 $1, i8 1 store i8 $2, null !1 ret i32 0 }")
        function = module[1][0]
        self.assertEqual(solve_demand(function, ((), (), ())), ((1, 0), (2, 0)))

    def test_tables_that_hold(self):
        module = parse_module("export main i32 { 0(): $0 = call i32 get() !1 $1 = add i32 $0, i32 1 $2 = and i32 $1, i32 6 ret $2 }")
        function = module[1][0]
        top = 2 ** 32 - 1
        self.assertEqual(solve_demand(function, ((), (), ())), ((0, 7), (1, 6), (2, top)))
        for table, due in (((), True), (((0, 7), (1, 6)), True), (((0, 7),), False), (((1, 6),), True), (((1, 2),), False), (((0, 3), (1, 6)), False),
                           (((0, 7), (1, 6), (2, 6)), False), (((0, 7), (1, 7)), True), (((0, 7), (1, 8)), False), (((0, 7), (1, 14)), False), (((0, 15), (1, 14)), True)):
            self.assertIs(holds_demand(function, ((), (), ()), table), due, table)

    def test_forms(self):
        module = parse_module("export main i32 { 0(): $0 = alloca 1 $1 = call i32 get() !1 ret i32 0 }")
        function = module[1][0]
        self.assertIs(holds_demand(function, ((), (), ()), ((0, 0), (1, 0))), True)
        self.assertIs(holds_demand(function, ((), (), ()), ((0, 1), (1, 2 ** 32 - 1))), True)
        for table in (None, True, 1, "x", [(0, 0)], ([0, 0],), ((0,),), ((0, 0, 0),), ((0, 2),), ((1, 2 ** 32),), ((1, -1),), ((1, True),), ((False, 0),), ((2, 0),),
                      ((1, 0), (0, 0)), ((0, 0), (0, 0)), (("0", 0),), ((0, "0"),), ((-1, 0),), ((0, None),)):
            self.assertIs(holds_demand(function, ((), (), ()), table), False, table)

    def samples(self, count):
        for seed in range(count):
            rnd = random.Random(seed)
            module = Shaper(rnd).module() if seed % 2 else Maker(rnd, blocks=8).module()
            for function in module[1]:
                yield rnd, module, function

    def test_random_functions(self):
        counts = [0, 0]
        for rnd, module, function in self.samples(200):
            before = copy.deepcopy(function)
            values = solve_values(module, function)
            table = solve_demand(function, values)
            self.assertEqual(function, before)
            slow = Slow(function, values)
            self.assertEqual(slow.least(), table)
            for _ in range(5):
                told = {name: mask for name, mask in table if rnd.random() < 0.8}
                if table and rnd.random() < 0.7:
                    name = rnd.choice(table)[0]
                    told[name] = rnd.choice((0, 1, told.get(name, 0) >> 1, told.get(name, 0) | 1, slow.all_of(slow.kinds[name])))
                due = slow.holds(told)
                self.assertIs(holds_demand(function, values, tuple(sorted(told.items()))), due)
                counts[due] += 1
        self.assertGreater(min(counts), 50)


class ExampleTest(unittest.TestCase):

    def test_example_behind_the_point(self):
        text = ("export main i32 { 0(): br 1(i8 0) 1($0 i8): $1 = icmp ult i8 $0, i8 10 condbr $1, 2($0), 3() 2($2 i8): $3 = add i8 $2, i8 1 br 1($3) "
                "3(): ret i32 0 }")
        module = parse_module(text)
        self.assertEqual(module, LOOP)
        table = solve_values(module, module[1][0])
        self.assertEqual(table, ((), (), ((0, (0, 10, 240, 0)), (2, (0, 9, 240, 0)), (3, (1, 10, 240, 0)))))
        self.assertEqual(table[2], LOOP_FACTS)
        self.assertEqual(solve_equations(module[1][0]), ())


class BoundsTest(unittest.TestCase):

    def test_greatest_function(self):
        function = big_function()
        values = solve_values(((), (function,)), function)
        table = shallow(lambda: solve_demand(function, values))
        self.assertEqual(len(table), 20000)
        self.assertIs(shallow(lambda: holds_demand(function, values, table)), True)

    def test_a_long_chain(self):
        rows = ((0, "call", "i64", (), ("f",), 1),)
        rows += tuple((k, "shl", "i64", (("name", k - 1), ("int", "i64", 1)), (), -1) if k % 2 else
                      (k, "lshr", "i64", (("name", k - 1), ("int", "i64", 1)), (), -1) for k in range(1, 19998))
        rows += ((19998, "trunc", "i32", (("name", 19997),), (), -1),)
        function = ("main", "i32", False, ((0, (), rows, ("ret", ("name", 19998))),))
        table = shallow(lambda: solve_demand(function, ((), (), ())))
        self.assertEqual(table[0], (0, 2 ** 31 - 1))
        self.assertIs(shallow(lambda: holds_demand(function, ((), (), ()), table)), True)


if __name__ == "__main__":
    unittest.main()
