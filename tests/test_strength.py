"""Promise 9.28: counters and strength."""

import unittest

from burnish.check import apply_step, check
from burnish.edits import incoming
from burnish.graph import graph_of
from burnish.loops import preheader
from burnish.plainloops import plain, simple_loops
from burnish.records import edges, find_block, find_function, new_name
from burnish.strength import counters, strength
from burnish.values import own_names
from burnish.words import width
from passing import PassCase, random_module
from test_bounds import shallow
from test_plainloops import branchy

LOOP = "0(): $0 = call i32 get() !1 $9 = and i32 $0, i32 7 br 1({first}) 1($1 {kind}): {head}$2 = icmp ult i32 $9, i32 3 $8 = call i32 get() !2 $7 = icmp eq i32 $8, i32 1 condbr $7, 2(), 3() 2(): {body}$3 = {step} br 1($3) 3(): ret i32 0"


def slow_counters(function, loop):
    """Return the counters of a simple loop, by the words of the document."""
    header, labels, latches, _, _ = loop
    end = find_block(function, latches[0])[3]
    passed = [operands for target, operands in edges(end) if target == header][0]
    found = []
    for k, (param, kind) in enumerate(find_block(function, header)[1]):
        for label in labels:
            for row in find_block(function, label)[2]:
                if kind == "ptr" or ("name", row[0]) != passed[k] or row[2] != kind:
                    continue
                a, b = (row[3] + (None, None))[:2]
                if row[1] in ("add", "sub") and a == ("name", param) and b[0] == "int":
                    found.append((param, (b[2] if row[1] == "add" else -b[2]) % 2 ** width(kind)))
                elif row[1] == "add" and b == ("name", param) and a[0] == "int":
                    found.append((param, a[2]))
    return found


def products(function):
    """Return the (loop, label, k, counter, step, factor) of the products of counters and integers other than 0, in order."""
    found = []
    for loop in simple_loops(function):
        told = dict(slow_counters(function, loop))
        for label in loop[1]:
            for k, row in enumerate(find_block(function, label)[2]):
                if row[1] == "mul":
                    for a, b in (row[3], row[3][::-1]):
                        if a[0] == "name" and a[1] in told and b[0] == "int" and b[2] != 0:
                            found.append((loop, label, k, a[1], told[a[1]], b[2]))
    return found


def slow_strength(module, name, amount):
    """Return the steps of strength for a function all of whose blocks are reached, by the words of the document."""
    found = []

    def emit(*step):
        nonlocal module
        found.append(step)
        module = apply_step(module, step)

    for _ in range(amount):
        function = find_function(module, name)
        if not products(function):
            break
        loop, label, k, counter, step, factor = products(function)[0]
        header, latch = loop[0], loop[2][0]
        ahead = preheader(graph_of(function), loop)
        kind = find_block(function, label)[2][k][2]
        at = [param for param, _ in find_block(function, header)[1]].index(counter)
        first = [operands for target, operands in edges(find_block(function, ahead)[3]) if target == header][0][at]
        later = [operands for target, operands in edges(find_block(function, latch)[3]) if target == header][0][at]
        n = new_name(function)
        number = ("int", kind, factor)
        emit("insert", name, ahead, len(find_block(function, ahead)[2]), (n, "mul", kind, (first, number), (), -1))
        emit("insert", name, latch, len(find_block(find_function(module, name), latch)[2]), (n + 1, "mul", kind, (later, number), (), -1))
        emit("add_param", name, header, n + 2, kind, tuple(("name", n if place[0] == ahead else n + 1) for place in incoming(function, header)))
        values = ((), tuple(sorted(own_names(function))), ())
        table = ((n + 2, counter, factor, 0),)
        emit("linear", name, values, table, label, k, ("name", n + 2))
        last = len(find_block(find_function(module, name), latch)[2]) - 1
        emit("insert", name, latch, last, (n + 3, "add", kind, (("name", n + 2), ("int", kind, factor * step % 2 ** width(kind))), (), -1))
        emit("linear", name, values, table, latch, last + 1, ("name", n + 3))
    return tuple(found)


class StrengthTest(PassCase):

    def text(self, kind="i32", first="i32 5", head="", body="", step="add i32 $1, i32 2"):
        return LOOP.format(kind=kind, first=first, head=head, body=body, step=step)

    def found(self, text):
        function = self.module(text)[1][0]
        return counters(function, simple_loops(function)[0])

    def test_counters(self):
        self.assertEqual(self.found(self.text()), [(1, 2)])
        self.assertEqual(self.found(self.text(step="add i32 i32 3, $1")), [(1, 3)])
        self.assertEqual(self.found(self.text(step="sub i32 $1, i32 3")), [(1, 2 ** 32 - 3)])
        for kind, bits in (("i1", 1), ("i8", 8), ("i16", 16), ("i64", 64)):
            self.assertEqual(self.found(self.text(kind, kind + " 1", step=f"sub {kind} $1, {kind} 1")), [(1, 2 ** bits - 1)])
            self.assertEqual(self.found(self.text(kind, kind + " 1", step=f"add {kind} $1, {kind} 0")), [(1, 0)])
        for step in ("sub i32 i32 3, $1", "add i32 $1, $9", "add i32 $1, $1", "mul i32 $1, i32 2", "add i32 $9, i32 1", "xor i32 $1, i32 1"):
            self.assertEqual(self.found(self.text(step=step)), [])
        # The instruction stands outside of the loop, or the argument is no name.
        self.assertEqual(self.found(self.text().replace("br 1($3)", "br 1(i32 7)")), [])
        self.assertEqual(self.found(self.text().replace("br 1($3)", "br 1($1)")), [])
        text = "0(): br 1(i8 0, null, i8 3) 1($0 i8, $1 ptr, $2 i8): $3 = add i8 $2, i8 1 $4 = sub i8 $0, i8 2 $5 = gep $1, 1 $6 = icmp eq i8 $3, i8 9 condbr $6, 2(), 1($4, $5, $3) 2(): ret i32 0"
        self.assertEqual(self.found(text), [(0, 254), (2, 1)])

    def test_product(self):
        text = self.text(body="$4 = mul i32 $1, i32 3 call void put($4) !3 ")
        due = ("0(): $0 = call i32 get() !1 $9 = and i32 $0, i32 7 $10 = mul i32 i32 5, i32 3 br 1(i32 5, $10) 1($1 i32, $12 i32): $2 = icmp ult i32 $9, i32 3 $8 = call i32 get() !2 $7 = icmp eq i32 $8, i32 1 condbr $7, 2(), 3() "
               "2(): call void put($12) !3 $3 = add i32 $1, i32 2 $13 = add i32 $12, i32 6 br 1($3, $13) 3(): ret i32 0")
        certificate = self.leads(strength, text, due)
        table = ((12, 1, 3, 0),)
        number = ("int", "i32", 3)
        self.assertEqual(certificate, (
            ("insert", "main", 0, 2, (10, "mul", "i32", (("int", "i32", 5), number), (), -1)),
            ("insert", "main", 2, 3, (11, "mul", "i32", (("name", 3), number), (), -1)),
            ("add_param", "main", 1, 12, "i32", (("name", 10), ("name", 11))),
            ("linear", "main", ((), (), ()), table, 2, 0, ("name", 12)),
            ("insert", "main", 2, 2, (13, "add", "i32", (("name", 12), ("int", "i32", 6)), (), -1)),
            ("linear", "main", ((), (), ()), table, 2, 3, ("name", 13)),
        ))

    def test_kinds_steps_and_factors(self):
        for kind, bits in (("i1", 1), ("i8", 8), ("i16", 16), ("i32", 32), ("i64", 64)):
            for step in (f"add {kind} $1, {kind} 1", f"add {kind} {kind} {2 ** bits - 1}, $1", f"sub {kind} $1, {kind} 1", f"sub {kind} $1, {kind} 0"):
                for factor in {1, 2 ** bits // 2, 2 ** bits - 1}:
                    for operands in (f"$1, {kind} {factor}", f"{kind} {factor}, $1"):
                        shown = {"i64": "$5 = trunc i32 $4", "i32": "$5 = add i32 $4, i32 0"}.get(kind, "$5 = zext i32 $4")
                        text = self.text(kind, f"{kind} 1", body=f"$4 = mul {kind} {operands} {shown} call void put($5) !3 ", step=step)
                        module = self.module(text)
                        certificate, changed = self.passed(strength, module)
                        self.assertEqual(certificate, slow_strength(module, "main", 1000))
                        self.assertEqual(len(certificate), 6)
                        self.assertEqual(products(changed[1][0]), [])

    def test_left_alone(self):
        for product in ("mul i32 $1, i32 0", "mul i32 i32 0, $1", "mul i32 $1, $1", "mul i32 $1, $9", "mul i32 $9, i32 3", "shl i32 $1, i32 3"):
            self.leaves(strength, self.text(body=f"$4 = {product} call void put($4) !3 "))
        self.leaves(strength, self.text(body="$4 = mul i32 $1, i32 3 ").replace("br 1(i32 5)", "condbr i1 1, 1(i32 5), 1(i32 6)"))
        # A product behind the loop.
        self.leaves(strength, self.text().replace("ret i32 0", "$4 = mul i32 $1, i32 3 ret $4"))

    def test_several_products(self):
        text = self.text(head="$4 = mul i32 i32 7, $1 ", body="$5 = mul i32 $4, i32 3 $6 = mul i32 $1, i32 1 call void put($5) !3 call void put($6) !4 ")
        module = self.module(text)
        certificate, changed = self.passed(strength, module)
        # The product of a product is that of a counter, when its turn comes.
        self.assertEqual(len(certificate), 18)
        self.assertEqual(certificate, slow_strength(module, "main", 1000))
        self.assertEqual(products(changed[1][0]), [])
        module = self.module(text + " 9(): ret i32 0")
        for amount in range(5):
            found = self.passed(strength, module, amount=amount)[0]
            self.assertEqual(found, (("prune", "main"),) + certificate[:6 * amount])

    def test_names_at_the_bound(self):
        self.leaves(strength, self.text(body="$999999997 = mul i32 $1, i32 3 call void put($999999997) !3 "))
        self.assertEqual(len(strength(self.module(self.text(body="$999999995 = mul i32 $1, i32 3 call void put($999999995) !3 ")), "main")), 6)

    def test_random(self):
        found = 0
        for seed in range(200):
            module = branchy(seed) if seed % 2 else random_module(seed)
            module = with_products(check(module, plain(module, ""))[0])
            for function in module[1]:
                name = function[0]
                self.assertEqual([counters(function, loop) for loop in simple_loops(function)], [slow_counters(function, loop) for loop in simple_loops(function)])
                certificate, changed = self.passed(strength, module, name)
                self.assertEqual([step for step in certificate if step[0] != "prune"], list(slow_strength(check(module, (("prune", name),))[0], name, 1000)))
                self.assertEqual(products(find_function(changed, name)), [])
                found += len(certificate) > 5
        self.assertGreater(found, 15)
        self.joined(strength, range(15))


def with_products(module):
    """Return the module with products of the counters of simple loops."""
    functions = []
    for function in module[1]:
        blocks = {block[0]: block for block in function[3]}
        fresh = new_name(function)
        for loop in simple_loops(function):
            for k, (counter, _) in enumerate(slow_counters(function, loop)):
                label, params, body, end = blocks[loop[1][(k + len(loop[1])) % len(loop[1])]]
                kind = dict(blocks[loop[0]][1])[counter]
                row = (fresh, "mul", kind, (("name", counter), ("int", kind, 3 % 2 ** width(kind))), (), -1)
                use = (-1, "store", kind, (("name", fresh), ("global", module[0][0][0])), (), 3)
                blocks[label] = (label, params, (row, use) + body, end)
                fresh += 1
        functions.append(function[:3] + (tuple(blocks[block[0]] for block in function[3]),))
    return (module[0], tuple(functions))


class StrengthBoundsTest(unittest.TestCase):

    def test_many(self):
        rows = tuple((k + 10, "mul", "i32", (("name", 1), ("int", "i32", k + 1)), (), -1) for k in range(60))
        blocks = ((0, (), (), ("br", (1, (("int", "i32", 0),)))), (1, ((1, "i32"),), rows + ((2, "add", "i32", (("name", 1), ("int", "i32", 1)), (), -1), (3, "icmp", "i32", (("name", 1), ("int", "i32", 9)), ("ult",), -1)), ("condbr", ("name", 3), (1, (("name", 2),)), (2, ()))),
                  (2, (), (), ("ret", ("name", 69))))
        module = ((), (("main", "i32", False, blocks),))
        certificate = shallow(lambda: strength(module, "main"))
        self.assertEqual(len(certificate), 360)
        self.assertEqual(shallow(lambda: check(module, certificate))[1], -1)


if __name__ == "__main__":
    unittest.main()
