"""Promises 6.16 and 6.17: linear forms and linear tables."""

import copy
import random
import unittest

from burnish.faults import faults
from burnish.linear import holds_linear, linear_form, solve_linear
from burnish.parse import parse_module
from burnish.records import edges
from burnish.run import Machine
from burnish.scopes import kinds_of, reached
from burnish.solve import solve_values
from burnish.values import live_labels
from samples import WIDTHS, Maker
from shaped import Shaper
from test_bounds import big_function, shallow


class Slow:
    """Forms and tables, sentence by sentence; a form here is (d, dict of the factors)."""

    def __init__(self, function, table):
        self.function, self.table = function, {row[0]: row for row in table}
        self.kinds = kinds_of(function)
        alive = reached(function)
        self.rows = {row[0]: row for block in function[3] if block[0] in alive for row in block[2]}
        self.params = {name for block in function[3] if block[0] in alive for name, _ in block[1]}
        self.known = {}

    def width(self, operand):
        return WIDTHS[operand[1] if operand[0] == "int" else self.kinds[operand[1]]]

    def form(self, operand):
        d, parts = self.slow_form(operand)
        return (d, tuple(sorted(parts.items())))

    def slow_form(self, operand):
        if operand[0] == "int":
            return (operand[2], {})
        name = operand[1]
        if name not in self.known:
            self.known[name] = self.made(name, 2 ** self.width(operand))
        return self.known[name]

    def made(self, name, m):
        own = (0, {name: 1})
        if name in self.table and name in self.params:
            _, i, c, d = self.table[name]
            return (d % m, {i: c % m} if c % m else {})
        if name not in self.rows or self.rows[name][1] not in ("add", "sub", "mul", "shl"):
            return own
        op, (a, b) = self.rows[name][1], [self.slow_form(operand) for operand in self.rows[name][3]]
        if op == "mul" and a[1] and b[1] or op == "shl" and (b[1] or b[0] >= self.width(("name", name))):
            return own
        if op == "mul":
            factor, form = (b[0], a) if not b[1] else (a[0], b)
        elif op == "shl":
            factor, form = 2 ** b[0], a
        else:
            sign = 1 if op == "add" else -1
            parts = {n: (a[1].get(n, 0) + sign * b[1].get(n, 0)) % m for n in set(a[1]) | set(b[1])}
            d = (a[0] + sign * b[0]) % m
            factor, form = 1, (d, parts)
        parts = {n: c * factor % m for n, c in form[1].items() if c * factor % m}
        return own if len(parts) > 8 else (form[0] * factor % m, parts)

    def lands(self, label, values):
        """Return the args of the edges into a block that count, ascending."""
        live = live_labels(self.function, values[0])
        found = []
        for block in sorted(self.function[3]):
            for slot, (target, args) in enumerate(edges(block[3])):
                if target == label and block[0] in live and (block[0], slot) not in values[0]:
                    found.append(args)
        return found

    def holds(self, values):
        for s, i, c, d in self.table.values():
            block = [block for block in self.function[3] if s in [name for name, _ in block[1]]][0]
            names = [name for name, _ in block[1]]
            m = 2 ** WIDTHS[self.kinds[s]]
            for args in self.lands(block[0], values):
                e, parts = self.slow_form(args[names.index(i)])
                due = ((e * c + d) % m, {n: f * c % m for n, f in parts.items() if f * c % m})
                if self.slow_form(args[names.index(s)]) != due:
                    return False
        return True


def solved(function, values):
    """Solve a table by the words of [6.17]."""
    plain = Slow(function, ())
    found = []
    for label, params, _, _ in function[3][1:]:
        taken = set()
        lands = plain.lands(label, values)
        for k, (s, kind) in enumerate(params):
            for j, (i, other) in enumerate(params[:k]):
                if kind != "ptr" and other == kind and i not in taken:
                    row = equation(plain, lands, (k, s), (j, i), 2 ** WIDTHS[kind])
                    if row is not None and Slow(function, (row,)).holds(values):
                        found.append(row)
                        taken.add(s)
                        break
    return tuple(sorted(found))


def equation(plain, lands, mine, its, m):
    steps, rest = [], []
    for args in lands:
        a, b = plain.slow_form(args[mine[0]]), plain.slow_form(args[its[0]])
        if a[1] == {mine[1]: 1} and b[1] == {its[1]: 1}:
            steps.append((a[0], b[0]))
        else:
            rest.append((a, b))
    if not steps or not rest or steps[0][1] % 2 == 0:
        return None
    c = steps[0][0] * pow(steps[0][1], -1, m) % m
    (d, parts), (e, others) = rest[0]
    left = {n: (parts.get(n, 0) - c * others.get(n, 0)) % m for n in set(parts) | set(others)}
    return None if c == 0 or any(left.values()) else (mine[1], its[1], c, (d - c * e) % m)


LOOP = ("0(): $9 = call i32 get() !1 br 1({}) 1($0 i32, $1 i32): $2 = {} $3 = {} $4 = icmp ult i32 $2, i32 90 condbr $4, 1($2, $3), 2() 2(): ret $1")


class LinearTest(unittest.TestCase):

    def function(self, text):
        module = parse_module("export main i32 { " + text + " }")
        self.assertEqual(faults(module), [])
        return module, module[1][0]

    def look(self, text, *expected):
        module, function = self.function(text)
        values = solve_values(module, function)
        table = solve_linear(function, values)
        self.assertEqual(table, expected)
        self.assertEqual(solved(function, values), table)
        self.assertIs(holds_linear(function, values, table), True)
        return function, values

    def test_forms_of_operations(self):
        _, function = self.function("0(): $0 = call i32 get() !1 $1 = trunc i8 $0 $2 = add i8 $1, i8 3 $3 = sub i8 $2, $1 $4 = sub i8 i8 1, $1 $5 = mul i8 $2, i8 100 "
                                    "$6 = mul i8 i8 2, $2 $7 = shl i8 $2, i8 7 $8 = shl i8 $2, i8 8 $9 = shl i8 $2, $1 $10 = mul i8 $2, $1 $11 = xor i8 $1, i8 0 "
                                    "$12 = add i8 $11, $1 $13 = add i8 $12, $11 $14 = add i8 i8 200, i8 100 $15 = mul i8 $1, $14 $16 = sub i8 $1, $1 $17 = shl i8 $1, $3 "
                                    "$18 = mul i8 $1, i8 0 $19 = mul i8 $5, i8 64 ret i32 0")
        x = 1
        for name, form in ((1, (0, ((x, 1),))), (2, (3, ((x, 1),))), (3, (3, ())), (4, (1, ((x, 255),))), (5, (44, ((x, 100),))), (6, (6, ((x, 2),))),
                           (7, (128, ((x, 128),))), (8, (0, ((8, 1),))), (9, (0, ((9, 1),))), (10, (0, ((10, 1),))), (11, (0, ((11, 1),))),
                           (12, (0, ((x, 1), (11, 1)))), (13, (0, ((x, 1), (11, 2)))), (14, (44, ())), (15, (0, ((x, 44),))), (16, (0, ())), (17, (0, ((x, 8),))),
                           (18, (0, ())), (19, (0, ()))):
            self.assertEqual(linear_form(function, (), ("name", name)), form, name)
        self.assertEqual(linear_form(function, (), ("int", "i8", 77)), (77, ()))

    def test_at_most_eight_names(self):
        rows = " ".join(f"${k} = call i32 get() !{k}" for k in range(9)) + " $10 = add i32 $0, $1 "
        rows += " ".join(f"${k + 9} = add i32 ${k + 8}, ${k}" for k in range(2, 9)) + " $18 = sub i32 $17, $8 $19 = sub i32 $16, $8"
        _, function = self.function("0(): " + rows + " ret i32 0")
        self.assertEqual(linear_form(function, (), ("name", 16)), (0, tuple((k, 1) for k in range(8))))
        self.assertEqual(linear_form(function, (), ("name", 17)), (0, ((17, 1),)))
        self.assertEqual(linear_form(function, (), ("name", 18)), (0, ((8, 2 ** 32 - 1), (17, 1))))
        self.assertEqual(linear_form(function, (), ("name", 19)), (0, ((19, 1),)))

    def test_names_that_cancel_do_not_count(self):
        rows = " ".join(f"${k} = call i32 get() !{k}" for k in range(8)) + " $10 = add i32 $0, $1 "
        rows += " ".join(f"${k + 9} = add i32 ${k + 8}, ${k}" for k in range(2, 8)) + " $17 = sub i32 $16, $7 $18 = call i32 get() !9 $19 = add i32 $17, $18"
        _, function = self.function("0(): " + rows + " ret i32 0")
        self.assertEqual(linear_form(function, (), ("name", 19)), (0, tuple((k, 1) for k in range(7)) + ((18, 1),)))

    def test_params_of_a_table(self):
        _, function = self.function("0(): br 1(i8 0, i8 3) 1($0 i8, $1 i8): $2 = add i8 $1, $0 $3 = add i8 $0, i8 1 $4 = add i8 $1, i8 2 br 1($3, $4)")
        self.assertEqual(linear_form(function, ((1, 0, 2, 3),), ("name", 1)), (3, ((0, 2),)))
        self.assertEqual(linear_form(function, ((1, 0, 2, 3),), ("name", 2)), (3, ((0, 3),)))
        self.assertEqual(linear_form(function, ((1, 0, 0, 3),), ("name", 1)), (3, ()))
        self.assertEqual(linear_form(function, (), ("name", 2)), (0, ((0, 1), (1, 1))))

    def test_blocks_that_are_not_reached(self):
        _, function = self.function("0(): ret i32 0 1($0 i8, $1 i8): $2 = add i8 $0, i8 1 $3 = add i8 $3, i8 1 br 1($2, $3)")
        for name in (0, 1, 2, 3):
            self.assertEqual(linear_form(function, ((1, 0, 2, 3),), ("name", name)), (0, ((name, 1),)))

    def test_tables_are_found(self):
        step = "add i32 $0, i32 1"
        self.look(LOOP.format("i32 0, i32 0", step, "add i32 $1, i32 4"), (1, 0, 4, 0))
        self.look(LOOP.format("i32 2, i32 7", step, "add i32 $1, i32 4"), (1, 0, 4, 2 ** 32 - 1))
        self.look(LOOP.format("i32 0, i32 5", "add i32 $0, i32 3", "add i32 $1, i32 6"), (1, 0, 2, 5))
        self.look(LOOP.format("i32 60, i32 5", "sub i32 $0, i32 1", "add i32 $1, i32 2"), (1, 0, 2 ** 32 - 2, 125))
        self.look(LOOP.format("$9, $9", step, "add i32 $1, i32 1"), (1, 0, 1, 0))
        # An even step has no inverse; a step 0 gives no factor; no constant is left over.
        self.look(LOOP.format("i32 0, i32 5", "add i32 $0, i32 2", "add i32 $1, i32 2"))
        self.look(LOOP.format("i32 0, i32 5", step, "add i32 $1, i32 0"))
        self.look(LOOP.format("i32 0, $9", step, "add i32 $1, i32 4"))
        self.look(LOOP.format("$9, i32 0", step, "add i32 $1, i32 4"))
        self.look(LOOP.format("i32 0, i32 0", step, "add i32 $9, i32 4"))
        # No edge beside the step, and no step edge.
        self.look("0(): br 1(i32 0, i32 0) 1($0 i32, $1 i32): ret $0")
        self.look("0(): ret i32 0 1($0 i32, $1 i32): $2 = add i32 $0, i32 1 br 1($2, $2)")

    def test_the_first_that_holds_is_taken(self):
        self.look("0(): br 1(i8 0, i8 1, i8 2) 1($0 i8, $1 i8, $2 i8): $3 = add i8 $0, i8 1 $4 = add i8 $1, i8 2 $5 = add i8 $2, i8 4 br 1($3, $4, $5)",
                  (1, 0, 2, 1), (2, 0, 4, 2))
        # 2 has no even multiple of 0, and 1 is none of 0, so it may serve.
        self.look("0(): br 1(i8 0, i8 1, i8 2) 1($0 i8, $1 i8, $2 i8): $3 = add i8 $0, i8 2 $4 = add i8 $1, i8 3 $5 = add i8 $2, i8 6 br 1($3, $4, $5)",
                  (2, 1, 2, 0))
        # Kinds differ, and pointers stay out.
        self.look("0(): br 1(i8 0, i16 0, null) 1($0 i8, $1 i16, $2 ptr): $3 = add i8 $0, i8 1 $4 = add i16 $1, i16 1 br 1($3, $4, $2)")

    def test_several_edges(self):
        text = ("0(): $9 = call i32 get() !1 $8 = icmp eq i32 $9, i32 0 condbr $8, 1(i8 0, i8 5), 1(i8 1, {}) 1($0 i8, $1 i8): $2 = add i8 $0, i8 1 "
                "$3 = add i8 $1, i8 2 $4 = add i8 $0, i8 5 $5 = add i8 $1, {} condbr $8, 1($2, $3), 1($4, $5)")
        self.look(text.format("i8 7", "i8 10"), (1, 0, 2, 5))
        self.look(text.format("i8 8", "i8 10"))
        self.look(text.format("i8 7", "i8 11"))

    def test_edges_that_are_dead_do_not_count(self):
        self.look("0(): condbr i1 1, 1(i8 0, i8 5), 1(i8 1, i8 9) 1($0 i8, $1 i8): $2 = add i8 $0, i8 1 $3 = add i8 $1, i8 2 br 1($2, $3)", (1, 0, 2, 5))
        self.look("0(): br 1(i8 0, i8 5) 1($0 i8, $1 i8): $2 = add i8 $0, i8 1 $3 = add i8 $1, i8 2 br 1($2, $3) 2(): br 1(i8 1, i8 1)", (1, 0, 2, 5))
        function = self.function("0(): br 1(i8 0, i8 5) 1($0 i8, $1 i8): $2 = add i8 $0, i8 1 $3 = add i8 $1, i8 2 br 1($2, $3) 2(): br 1(i8 1, i8 1)")[1]
        self.assertEqual(solve_linear(function, ((), (), ())), ((1, 0, 2, 5),))
        self.assertIs(holds_linear(function, ((), (), ()), ((1, 0, 2, 5),)), True)

    def test_the_step_edge_is_the_first_one_ascending(self):
        # Along (5, 0) the steps are 1 and 2; along (3, 0) they are 3 and 6.
        text = "0(): br 1(i8 0, i8 0) 1($0 i8, $1 i8): $9 = icmp ult i8 $0, i8 4 condbr $9, {0}() , {1}() {0}(): $2 = add i8 $0, i8 {2} $3 = add i8 $1, i8 {3} br 1($2, $3) " \
               "{1}(): $4 = add i8 $0, i8 {4} $5 = add i8 $1, i8 {5} br 1($4, $5)"
        self.look(text.format(5, 3, 2, 4, 3, 6), (1, 0, 2, 0))
        self.look(text.format(3, 5, 2, 4, 3, 6))

    def test_tables_that_hold(self):
        function, values = self.look(LOOP.format("i32 0, i32 7", "add i32 $0, i32 1", "add i32 $1, i32 4"), (1, 0, 4, 7))
        for table, due in (((), True), (((1, 0, 4, 8),), False), (((1, 0, 3, 7),), False), (((0, 1, 4, 7),), False), (((1, 0, 0, 7),), False)):
            self.assertIs(holds_linear(function, values, table), due, table)
        # Two equations that hold only together.
        function, values = self.look("0(): br 1(i8 0, i8 0, i8 1) 1($0 i8, $1 i8, $2 i8): $3 = add i8 $0, i8 1 $4 = add i8 $2, i8 0 $5 = add i8 $1, i8 2 br 1($3, $4, $5)")
        self.assertIs(holds_linear(function, values, ((1, 0, 1, 0), (2, 0, 1, 1))), True)
        self.assertIs(holds_linear(function, values, ((1, 0, 1, 0),)), False)
        self.assertIs(holds_linear(function, values, ((2, 0, 1, 1),)), False)

    def test_factor_zero(self):
        function, values = self.look("0(): br 1(i8 0, i8 7) 1($0 i8, $1 i8): $2 = add i8 $0, i8 1 br 1($2, i8 7)")
        self.assertIs(holds_linear(function, values, ((1, 0, 0, 7),)), True)
        self.assertIs(holds_linear(function, values, ((1, 0, 0, 8),)), False)

    def test_labels_that_are_not_live(self):
        function, values = self.look("0(): condbr i1 1, 3(), 1(i8 0, i8 7) 1($0 i8, $1 i8): br 1($0, $1) 3(): ret i32 0")
        self.assertIs(holds_linear(function, values, ((1, 0, 9, 9),)), True)
        self.assertIs(holds_linear(function, ((), (), ()), ((1, 0, 9, 9),)), False)

    def test_forms_of_tables(self):
        function, values = self.look("0(): $9 = call i32 get() !1 br 1(i8 0, i8 0, i16 0, null, i8 0) 1($0 i8, $1 i8, $2 i16, $3 ptr, $4 i8): br 2(i8 0) 2($5 i8): ret i32 0")
        good = ((1, 0, 1, 0),)
        self.assertIs(holds_linear(function, values, good), True)
        self.assertIs(holds_linear(function, values, ((1, 0, 1, 0), (4, 0, 3, 0))), True)
        for table in (None, 1, True, "x", [(1, 0, 1, 0)], ([1, 0, 1, 0],), ((1, 0, 1),), ((1, 0, 1, 0, 0),), ((True, 0, 1, 0),), ((1, False, 1, 0),), ((1, 0, True, 0),),
                      ((1, 0, 1, "0"),), ((1, 0, 256, 0),), ((1, 0, 1, 256),), ((1, 0, -1, 0),), ((1, 0, 1, -256),), ((1, 1, 1, 0),), ((2, 0, 1, 0),), ((3, 3, 1, 0),),
                      ((3, 0, 1, 0),), ((5, 0, 1, 0),), ((9, 0, 1, 0),), ((7, 0, 1, 0),), ((1, 7, 1, 0),), ((4, 0, 1, 0), (1, 0, 1, 0)), ((1, 0, 1, 0), (1, 0, 1, 0)),
                      ((1, 0, 1, 0), (4, 1, 1, 0)), ((0, 1, 1, 0), (1, 0, 1, 0)), ((1, 0, None, 0),), ((-1, 0, 1, 0),)):
            self.assertIs(holds_linear(function, values, table), False, table)
        pointers = self.function("0(): br 1(null, null) 1($0 ptr, $1 ptr): ret i32 0")[1]
        self.assertIs(holds_linear(pointers, ((), (), ()), ((1, 0, 1, 0),)), False)
        entry = parse_module("internal f i32 { 0($0 i8, $1 i8): ret i32 0 } export main i32 { 0(): ret i32 0 }")[1][0]
        self.assertIs(holds_linear(entry, ((), (), ()), ((1, 0, 1, 0),)), False)

    def samples(self, count):
        for seed in range(count):
            rnd = random.Random(seed)
            module = Shaper(rnd).module() if seed % 3 else Maker(rnd, blocks=6, kinds=("i8",)).module()
            for function in module[1]:
                yield rnd, module, function

    def test_random_functions(self):
        found = 0
        for rnd, module, function in self.samples(200):
            before = copy.deepcopy(function)
            values = solve_values(module, function)
            table = solve_linear(function, values)
            self.assertEqual(function, before)
            self.assertEqual(solved(function, values), table)
            self.assertIs(holds_linear(function, values, table), True)
            found += len(table)
            slow, plain = Slow(function, table), Slow(function, ())
            names = [name for name, kind in kinds_of(function).items() if kind != "ptr"]
            for name in rnd.sample(names, min(len(names), 12)):
                self.assertEqual(linear_form(function, table, ("name", name)), slow.form(("name", name)))
                self.assertEqual(linear_form(function, (), ("name", name)), plain.form(("name", name)))
            for s, i, c, d in table:
                for row in ((s, i, c, d ^ 1), (s, i, c ^ 1, d), (i, s, c, d)):
                    self.assertIs(holds_linear(function, values, (row,)), Slow(function, (row,)).holds(values))
        self.assertGreater(found, 60)

    def test_equations_are_true_of_runs(self):
        looked_at = 0
        for seed in range(150):
            module = Shaper(random.Random(seed), depth=3).module()
            told = {function[0]: (solve_linear(function, solve_values(module, function)), {name: block[0] for block in function[3] for name, _ in block[1]})
                    for function in module[1]}
            kinds = {function[0]: kinds_of(function) for function in module[1]}
            machine = Machine(module, [65, 0, 1])
            while machine.end == ("none",) and machine.steps < 300:
                name, label, _, known, _ = machine.state[0][-1]
                for s, i, c, d in told[name][0]:
                    if told[name][1][s] == label:
                        self.assertEqual(known[s], (known[i] * c + d) % 2 ** WIDTHS[kinds[name][s]])
                        looked_at += 1
                machine.go(fuel=1)
        self.assertGreater(looked_at, 200)


class BoundsTest(unittest.TestCase):

    def test_greatest_functions(self):
        function = big_function()
        values = solve_values(((), (function,)), function)
        table = shallow(lambda: solve_linear(function, values))
        self.assertIs(shallow(lambda: holds_linear(function, values, table)), True)
        shallow(lambda: linear_form(function, (), ("name", 19999)))
        rows = ((0, "call", "i32", (), ("get",), 1),)
        rows += tuple((k, "add", "i32", (("name", k - 1), ("int", "i32", 1)), (), -1) for k in range(1, 20000))
        long = ("main", "i32", False, ((0, (), rows, ("ret", ("int", "i32", 0))),))
        self.assertEqual(shallow(lambda: linear_form(long, (), ("name", 19999))), (19999, ((0, 1),)))

    def test_many_loops(self):
        blocks = [(0, (), (), ("br", (1, (("int", "i32", 0), ("int", "i32", 0)))))]
        for k in range(1, 1999):
            a, b, c, d, e = range(5 * k, 5 * k + 5)
            rows = ((c, "add", "i32", (("name", a), ("int", "i32", 1)), (), -1), (d, "add", "i32", (("name", b), ("int", "i32", 4)), (), -1),
                    (e, "icmp", "i32", (("name", c), ("int", "i32", 9)), ("ult",), -1))
            behind = (k + 1, (("int", "i32", 0), ("int", "i32", 0)) if k < 1998 else ())
            blocks.append((k, ((a, "i32"), (b, "i32")), rows, ("condbr", ("name", e), (k, (("name", c), ("name", d))), behind)))
        blocks.append((1999, (), (), ("ret", ("int", "i32", 0))))
        function = ("main", "i32", False, tuple(blocks))
        table = shallow(lambda: solve_linear(function, ((), (), ())))
        self.assertEqual(len(table), 1998)
        self.assertEqual(table[0], (6, 5, 4, 0))
        self.assertIs(shallow(lambda: holds_linear(function, ((), (), ()), table)), True)


if __name__ == "__main__":
    unittest.main()
