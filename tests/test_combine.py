"""Promise 8.1: combine, and what a pass is."""

import copy
import random
import unittest

from burnish.check import apply_step, check
from burnish.combine import combine
from burnish.faults import faults
from burnish.parse import parse_module
from burnish.records import find_block, find_function
from burnish.rules import Book, first_ranged, first_rewrite, ranged, rewrite
from burnish.scopes import reached
from burnish.solve import solve_values
from burnish.values import Knowledge
from samples import BINARIES, Maker, some_value
from shaped import Shaper
from stepping import StepCase
from test_bounds import big_function, shallow

GET = "0(): $0 = call i32 get() !1 $1 = trunc i8 $0 "


def slow_combine(module, name):
    """Return the certificate by the words of the point, with the steps of the kernel."""
    certificate = []
    while True:
        before = len(certificate)
        for label in reached(find_function(module, name)):
            k = 0
            while k < len(find_block(find_function(module, name), label)[2]):
                step = slow_step(module, name, label, k)
                if step is None:
                    k += 1
                    continue
                row = find_block(find_function(module, name), label)[2][k]
                certificate.append(step)
                module = apply_step(module, step)
                body = find_block(find_function(module, name), label)[2]
                if k < len(body) and body[k][0] == row[0]:
                    continue
        if before == len(certificate):
            return tuple(certificate), module


def slow_step(module, name, label, k):
    function = find_function(module, name)
    row = find_block(function, label)[2][k]
    for number in range(1, 71):
        if rewrite(function, row, number, ()) is not None:
            return ("rule", name, label, k, number, ())
    values = solve_values(module, function)
    for number in range(101, 113):
        if ranged(function, values, row, number, ()) is not None:
            return ("ranged_rule", name, values, label, k, number, ())
    return None


def spice(rnd, function):
    """Return a function with more instructions, on many of which rules match."""
    blocks = []
    fresh = 50000
    for label, params, body, end in function[3]:
        rows = []
        names = [name for name, kind in params if kind == "i8"]
        for row in body:
            rows.append(row)
            if row[1] != "icmp" and row[2] == "i8" and row[0] != -1:
                names.append(row[0])
            for _ in range(rnd.randrange(3)):
                if not names:
                    break
                a, b = [("name", rnd.choice(names[-4:])) if rnd.random() < 0.6 else ("int", "i8", some_value(rnd, "i8")) for _ in range(2)]
                op = rnd.choice(BINARIES + ("udiv", "urem"))
                place = -1 if op in BINARIES else 9
                if place == 9:
                    b = ("int", "i8", rnd.choice((1, 2, 8, 3)))
                rows.append((fresh, op, "i8", (a, b), (), place))
                names.append(fresh)
                fresh += 1
        if rows and names and rnd.random() < 0.8:
            rows.append((fresh, "zext", "i32", (("name", names[-1]),), (), -1))
            rows.append((-1, "call", "void", (("name", fresh),), ("put",), 3))
            fresh += 1
        blocks.append((label, params, tuple(rows), end))
    return function[:3] + (tuple(blocks),)


class CombineTest(StepCase):

    def look(self, text, numbers, due):
        """Look at the numbers of the rules that are used, and at the module that results."""
        module = self.module(text)
        before = copy.deepcopy(module)
        certificate = combine(module, "main")
        self.assertEqual(module, before)
        self.assertIsInstance(certificate, tuple)
        self.assertEqual([step[-2] for step in certificate], numbers)
        changed, at = check(module, certificate)
        self.assertEqual(at, -1)
        self.assertEqual(changed, self.module(due))
        self.assertEqual(combine(changed, "main"), ())
        self.same_runs(module, changed)
        self.assertEqual(slow_combine(module, "main"), (certificate, changed))
        for amount in range(len(certificate) + 2):
            self.assertEqual(combine(module, "main", amount=amount), certificate[:amount] if amount else certificate)
        return certificate

    def test_example(self):
        text = "0(): $0 = call i32 get() !1 $1 = mul i32 $0, i32 8 $2 = udiv i32 $1, i32 1 !2 $3 = sub i32 $2, $2 call void put($3) !3 ret i32 0"
        certificate = self.look(text, [11, 2, 4], "0(): $0 = call i32 get() !1 $1 = shl i32 $0, i32 3 call void put(i32 0) !3 ret i32 0")
        self.assertEqual(certificate, (("rule", "main", 0, 1, 11, ()), ("rule", "main", 0, 2, 2, ()), ("rule", "main", 0, 2, 4, ())))

    def test_several_rules_at_one_instruction(self):
        # uge x 1 becomes ugt x 0, and that ne x 0.
        self.look(GET + "$2 = icmp uge i8 $1, i8 1 $3 = zext i32 $2 ret $3", [46, 47], GET + "$2 = icmp ne i8 $1, i8 0 $3 = zext i32 $2 ret $3")
        self.look(GET + "$2 = add i8 i8 3, $1 $3 = sub i8 $2, i8 3 $4 = zext i32 $3 ret $4", [7, 8, 14, 1], GET + "$2 = add i8 $1, i8 3 $4 = zext i32 $1 ret $4")

    def test_the_least_number_is_taken(self):
        # Rules 2, 3 and 102 match; so do 1 and 9 and 14.
        self.look(GET + "$2 = and i8 $1, i8 255 $3 = zext i32 $2 ret $3", [2], GET + "$3 = zext i32 $1 ret $3")
        self.look(GET + "$2 = sub i8 $1, i8 128 $3 = zext i32 $2 ret $3", [8, 68], GET + "$2 = xor i8 $1, i8 128 $3 = zext i32 $2 ret $3")

    def test_a_second_sweep(self):
        # What the first sweep leaves in a later block makes a rule match in an earlier one.
        text = ("0(): br 3() 1(): $3 = sub i32 $2, i32 5 $4 = add i32 $3, i32 5 call void put($4) !1 ret $4 3(): $0 = call i32 get() !1 $2 = mul i32 $0, i32 1 br 1()")
        self.look(text, [8, 14, 1, 2], "0(): br 3() 1(): $3 = add i32 $0, i32 4294967291 call void put($0) !1 ret $0 3(): $0 = call i32 get() !1 br 1()")
        text = "0(): br 3() 1(): $4 = add i32 $3, i32 5 call void put($4) !1 ret $4 3(): $0 = call i32 get() !1 $3 = sub i32 $0, i32 5 br 1()"
        self.look(text, [21, 8], "0(): br 3() 1(): call void put($0) !1 ret $0 3(): $0 = call i32 get() !1 $3 = add i32 $0, i32 4294967291 br 1()")

    def test_blocks_that_are_not_reached(self):
        self.look("0(): ret i32 0 1(): $0 = add i32 i32 1, i32 0 $1 = add i32 $1, i32 5 ret $0", [], "0(): ret i32 0 1(): $0 = add i32 i32 1, i32 0 $1 = add i32 $1, i32 5 ret $0")
        # But uses there are replaced.
        self.look("0(): $0 = call i32 get() !1 $1 = add i32 $0, i32 0 ret $1 1(): $2 = add i32 $1, i32 0 ret $1", [1], "0(): $0 = call i32 get() !1 ret $0 1(): $2 = add i32 $0, i32 0 ret $0")

    def test_ranged_rules(self):
        text = GET + "$2 = and i8 $1, i8 7 $3 = urem i8 $2, i8 8 !2 $4 = urem i8 $2, i8 9 !3 $5 = sext i32 $4 $6 = icmp slt i32 $5, i32 9 $7 = zext i32 $6 $8 = add i32 $7, $5 ret $8"
        self.look(text, [13, 14, 101, 104, 107, 53, 109], GET + "$2 = and i8 $1, i8 7 $3 = and i8 $1, i8 7 $5 = zext i32 $2 $7 = zext i32 i1 1 $8 = add i32 $7, $5 ret $8")
        # A loop whose counter stays below 10.
        text = "0(): br 1(i8 0) 1($0 i8): $1 = icmp ult i8 $0, i8 10 condbr $1, 2($0), 3() 2($2 i8): $3 = add i8 $2, i8 1 $4 = icmp ult i8 $2, i8 10 $5 = zext i32 $4 call void put($5) !1 br 1($3) 3(): $6 = zext i32 $0 ret $6"
        self.look(text, [109], text.replace("$4 = icmp ult i8 $2, i8 10 ", "").replace("zext i32 $4", "zext i32 i1 1"))

    def test_tables_are_those_of_the_function_as_it_is(self):
        text = GET + "$2 = and i8 $1, i8 7 $3 = lshr i8 $2, i8 1 $4 = add i8 $3, i8 8 $5 = xor i8 $4, i8 16 $6 = zext i32 $5 ret $6"
        module = self.module(text)
        for step in combine(module, "main"):
            if step[0] == "ranged_rule":
                self.assertEqual(step[2], solve_values(module, module[1][-1]))
            module = apply_step(module, step)
        self.look(text, [108, 108, 14], text.replace("add i8 $3", "or i8 $3").replace("xor i8 $4, i8 16", "or i8 $3, i8 24"))

    def test_names_that_are_known_less_at_first(self):
        # Block 1 stands first, but what block 2 makes is rewritten only behind it; then 2 is a constant, and the comparison is decided.
        text = ("0(): $0 = call i32 get() !1 br 2() 1(): $2 = xor i32 $0, $3 $4 = add i32 $2, i32 1 $6 = icmp ult i32 $4, i32 5 $7 = zext i32 $6 ret $7 2(): $3 = sub i32 i32 4294967295, $0 br 1()")
        self.look(text, [27, 21, 109], "0(): $0 = call i32 get() !1 br 2() 1(): $4 = add i32 i32 4294967295, i32 1 $7 = zext i32 i1 1 ret $7 2(): $3 = xor i32 $0, i32 4294967295 br 1()")
        # Here an instruction is made of which bits are known.
        text = ("0(): $0 = call i32 get() !1 $1 = call i32 get() !2 br 2() 1(): $2 = and i32 $0, $8 $3 = xor i32 $0, $9 $4 = add i32 $2, $3 $5 = xor i32 $4, i32 1 $6 = icmp ult i32 $5, i32 100 $7 = zext i32 $6 ret $7 "
                "2(): $9 = or i32 $1, i32 128 $8 = mul i32 $9, i32 1 br 1()")
        self.look(text, [2, 35, 109], "0(): $0 = call i32 get() !1 $1 = call i32 get() !2 br 2() 1(): $2 = and i32 $0, $9 $3 = xor i32 $0, $9 $4 = or i32 $0, $9 $5 = xor i32 $4, i32 1 $7 = zext i32 i1 0 ret $7 "
                  "2(): $9 = or i32 $1, i32 128 br 1()")

    def test_operands_that_are_replaced_one_by_another(self):
        text = GET + "$2 = add i8 $1, i8 0 $3 = or i8 $2, i8 0 $4 = mul i8 $3, i8 1 $5 = xor i8 $4, $2 $6 = add i8 $5, $3 $7 = zext i32 $6 ret $7"
        self.look(text, [1, 1, 2, 4, 7, 1], GET + "$7 = zext i32 $1 ret $7")

    def test_other_functions_stay(self):
        text = "internal f i32 { 0($0 i32): $1 = add i32 $0, i32 0 ret $1 } export main i32 { 0(): $0 = call i32 f(i32 3) !1 $1 = add i32 $0, i32 0 ret $1 }"
        module = self.module(text)
        self.assertEqual(combine(module, "f"), (("rule", "f", 0, 0, 1, ()),))
        self.assertEqual(combine(module, "main"), (("rule", "main", 0, 1, 1, ()),))

    def test_no_rule_matches_afterwards(self):
        steps, numbers = 0, set()
        for seed in range(250):
            rnd = random.Random(seed)
            module = Shaper(rnd).module() if seed % 2 else Maker(rnd, rows=8).module()
            module = (module[0], tuple(spice(rnd, function) for function in module[1]))
            self.assertEqual(faults(module), [])
            for function in module[1]:
                before = copy.deepcopy(module)
                certificate = combine(module, function[0])
                self.assertEqual(module, before)
                changed, at = check(module, certificate)
                self.assertEqual(at, -1, seed)
                self.assertEqual(combine(changed, function[0]), ())
                self.look_that_none_matches(changed, function[0])
                self.same_runs(module, changed)
                steps += len(certificate)
                numbers.update(step[-2] for step in certificate)
                module = changed
        self.assertGreater(steps, 2000)
        self.assertGreater(len(numbers), 55)

    def look_that_none_matches(self, module, name):
        function = find_function(module, name)
        book, knowledge = Book(function), Knowledge(function, solve_values(module, function))
        for label in reached(function):
            for row in find_block(function, label)[2]:
                self.assertIsNone(first_rewrite(book, row, 0))
                self.assertIsNone(first_ranged(knowledge, row, 0))

    def test_certificates_are_those_of_the_words(self):
        for seed in range(60):
            rnd = random.Random(1000 + seed)
            module = Shaper(rnd, statements=3, depth=1).module() if seed % 2 else Maker(rnd, blocks=4, rows=4).module()
            function = spice(rnd, module[1][-1])
            module = (module[0], module[1][:-1] + (function,))
            certificate = combine(module, function[0])
            self.assertEqual(slow_combine(module, function[0])[0], certificate, seed)
            for amount in (1, 2, 5):
                self.assertEqual(combine(module, function[0], amount=amount), certificate[:amount])


class BoundsTest(unittest.TestCase):

    def chain(self, count, row):
        rows = ((0, "call", "i32", (), ("get",), 0),) + tuple(row(k) for k in range(1, count))
        return ((), (("main", "i32", False, ((0, (), rows, ("ret", ("name", count - 1))),)),))

    def test_long_chains(self):
        module = self.chain(20000, lambda k: (k, "add", "i32", (("name", k - 1), ("int", "i32", 0)), (), -1))
        certificate = shallow(lambda: combine(module, "main"))
        self.assertEqual(len(certificate), 19999)
        self.assertEqual(check(module, certificate[:20])[1], -1)
        module = self.chain(600, lambda k: (k, "sub", "i32", (("name", k - 1), ("int", "i32", k)), (), -1))
        certificate = shallow(lambda: combine(module, "main"))
        changed, at = shallow(lambda: check(module, certificate))
        self.assertEqual(at, -1)
        self.assertEqual(changed[1][0][3][0][2][-1], (599, "add", "i32", (("name", 0), ("int", "i32", -(599 * 600 // 2) % 2 ** 32)), (), -1))

    def test_greatest_function(self):
        function = big_function()
        module = ((), (function,))
        certificate = shallow(lambda: combine(module, "main", amount=12))
        self.assertEqual(len(certificate), 12)
        self.assertEqual(shallow(lambda: check(module, certificate))[1], -1)
        blocks = tuple(block[:2] + (tuple((row[0], "load", "i8", (("global", "g"),), (), 1) for row in block[2]), block[3]) for block in function[3])
        still = ((("g", False, (1,)),), (function[:3] + (blocks,),))
        self.assertEqual(shallow(lambda: combine(still, "main")), ())


if __name__ == "__main__":
    unittest.main()
