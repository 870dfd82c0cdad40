"""Promises 10.1 and 10.2: inline and tails."""

import unittest

from burnish.callsteps import is_tail
from burnish.check import apply_step, check
from burnish.inline import inline, tails
from burnish.records import definitions, find_block, find_function, new_label, new_name
from burnish.run import run
from passing import PassCase, random_module
from test_bounds import shallow


def slow_inline(module, name, amount):
    """Return the steps of inline, by the words of the document."""
    found = []
    first = module
    places = []
    for label, _, body, _ in find_function(module, name)[3]:
        places += [(label, k) for k, row in enumerate(body) if row[1] == "call"]
    for label, k in sorted(places)[::-1]:
        call = find_block(find_function(module, name), label)[2][k]
        callee = find_function(first, call[4][0])
        if callee is None or callee[0] == name or sum(len(block[2]) for block in callee[3]) > amount:
            continue
        if any(row[1] == "alloca" for block in callee[3][1:] for row in block[2]):
            continue
        function = find_function(module, name)
        count = len(definitions(callee)) - len(callee[3][0][1]) + (callee[1] != "void")
        a, b = new_label(function), new_name(function)
        found.append(("inline", name, label, k, a, tuple(range(a + 1, a + 1 + len(callee[3]))), tuple(range(b, b + count))))
        module = apply_step(module, found[-1])
    return tuple(found)


class InlineTest(PassCase):

    head = ("internal three i32 { 0($0 i32): $1 = add i32 $0, i32 1 $2 = mul i32 $1, $1 call void put($2) !1 br 1($2) 1($3 i32): ret $3 } internal nothing void { 0(): ret } "
            "internal early void { 0(): $0 = alloca 4 store i32 i32 1, $0 !1 ret } internal late void { 0(): br 1() 1(): $0 = alloca 4 ret } ")

    def test_calls(self):
        text = "0(): $0 = call i32 get() !1 $1 = call i32 three($0) !2 call void nothing() !3 $2 = call i32 three($1) !4 br 1() 1(): call void early() !5 ret $2"
        module = self.module(text)
        certificate, changed = self.passed(inline, module)
        self.assertEqual(certificate, (
            ("inline", "main", 1, 0, 2, (3,), (3,)), ("inline", "main", 0, 3, 4, (5, 6), (4, 5, 6, 7)), ("inline", "main", 0, 2, 7, (8,), ()), ("inline", "main", 0, 1, 9, (10, 11), (8, 9, 10, 11))))
        self.assertEqual(certificate, slow_inline(module, "main", 30))
        self.assertFalse(any(row[1] == "call" and row[4][0] in ("three", "nothing", "early") for block in changed[1][-1][3] for row in block[2]))

    def test_amount(self):
        # Functions at the amount, and one above it.
        text = "0(): $0 = call i32 three(i32 1) !1 call void nothing() !2 call void early() !3 call void late() !4 ret $0"
        for amount, places in ((0, [1]), (1, [1]), (2, [2, 1]), (3, [2, 1, 0]), (30, [2, 1, 0])):
            certificate = self.passed(inline, self.module(text), amount=amount)[0]
            self.assertEqual([step[3] for step in certificate], places)
        self.assertEqual(inline(self.module(text), "main"), inline(self.module(text), "main", amount=30))

    def test_thirty(self):
        text = "internal f i32 {{ 0($0 i32): {} ret $0 }} export main i32 {{ 0(): $0 = call i32 f(i32 1) !1 ret $0 }}"
        for count, due in ((29, 1), (30, 1), (31, 0)):
            module = self.module(text.format(" ".join(f"${k + 1} = add i32 $0, i32 {k}" for k in range(count))))
            self.assertEqual(len(self.passed(inline, module)[0]), due)

    def test_functions_that_call_themselves_and_each_other(self):
        text = ("internal a i32 { 0($0 i32): $1 = icmp eq i32 $0, i32 0 condbr $1, 1(), 2() 1(): ret $0 2(): $2 = sub i32 $0, i32 1 $3 = call i32 b($2) !1 ret $3 } "
                "internal b i32 { 0($0 i32): $1 = call i32 a($0) !1 $2 = call i32 a($1) !2 ret $2 } export main i32 { 0(): $0 = call i32 a(i32 4) !1 $1 = call i32 b(i32 2) !2 ret $1 }")
        for name, count in (("a", 1), ("b", 2), ("main", 2)):
            certificate, changed = self.passed(inline, self.module(text), name)
            self.assertEqual(len(certificate), count)
            self.assertEqual(certificate, slow_inline(self.module(text), name, 30))
        text = "internal r i32 { 0($0 i32): $1 = icmp eq i32 $0, i32 0 condbr $1, 1(), 2() 1(): ret $0 2(): $2 = sub i32 $0, i32 1 $3 = call i32 r($2) !1 ret $3 } export main i32 { 0(): $0 = call i32 r(i32 4) !1 ret $0 }"
        self.leaves(inline, text, "r")
        self.assertEqual(len(self.passed(inline, self.module(text))[0]), 1)

    def test_blocks_that_no_path_reaches(self):
        self.assertEqual(len(self.passed(inline, self.module("0(): ret i32 0 1(): call void nothing() !1 ret i32 1"))[0]), 1)

    def test_labels_at_the_bound(self):
        # The copies of three find no names; nothing needs none.
        module = self.module("0(): $999999998 = call i32 three(i32 1) !1 call void nothing() !2 ret i32 0")
        self.assertEqual([step[3] for step in self.passed(inline, module)[0]], [1])

    def test_random(self):
        found = 0
        for seed in range(250):
            module = random_module(seed)
            for function in module[1]:
                for amount in (5, 30, 1000):
                    certificate = self.passed(inline, module, function[0], amount=amount)[0]
                    self.assertEqual(certificate, slow_inline(module, function[0], amount))
                    found += certificate != ()
        self.assertGreater(found, 30)

    def test_many(self):
        rows = tuple((k, "call", "i32", (("int", "i32", k),), ("f",), 1) for k in range(150))
        callee = ("f", "i32", True, ((0, ((0, "i32"),), ((1, "add", "i32", (("name", 0), ("int", "i32", 1)), (), -1),), ("ret", ("name", 1))),))
        module = ((), (callee, ("main", "i32", False, ((0, (), rows, ("ret", ("name", 149))),))))
        certificate = shallow(lambda: inline(module, "main"))
        changed, at = shallow(lambda: check(module, certificate))
        self.assertEqual((at, len(certificate)), (-1, 150))
        self.assertEqual(run(changed, [], fuel=9000)[:2], run(module, [], fuel=9000)[:2])


class TailsTest(PassCase):

    SUM = ("internal f i32 {{ 0($0 i32, $1 i32): {} $2 = icmp eq i32 $0, i32 0 condbr $2, 1(), 2() 1(): ret $1 2(): $3 = sub i32 $0, i32 1 $4 = add i32 $1, $0 $5 = call i32 f($3, $4) !1 ret $5 {} }} "
           "export main i32 {{ 0(): $0 = call i32 f(i32 9, i32 0) !1 ret $0 }}")

    def test_split_entry_first(self):
        text = self.SUM.format("", "")
        certificate, changed = self.passed(tails, self.module(text), "f")
        self.assertEqual(certificate, (("split_entry", "f", 3, (6, 7)), ("tail", "f", 2)))
        self.assertEqual(tails(changed, "f"), ())
        self.cut(tails, text, "f")

    def test_entry_that_passes_on(self):
        text = self.SUM.format("br 3($0, $1) 3($8 i32, $9 i32):", "").replace("icmp eq i32 $0", "icmp eq i32 $8").replace("ret $1", "ret $9").replace("sub i32 $0", "sub i32 $8").replace("$1, $0", "$9, $8")
        certificate = self.passed(tails, self.module(text), "f")[0]
        self.assertEqual(certificate, (("tail", "f", 2),))
        # Another order of the parameters, or another use of one.
        for changed in (text.replace("br 3($0, $1)", "br 3($1, $0)"), text.replace("ret $9", "ret $1"), text.replace("br 3($0, $1)", "br 3($0, i32 4)")):
            self.assertEqual(self.words(self.passed(tails, self.module(changed), "f")[0]), ["split_entry", "tail"])

    def test_several_tail_blocks(self):
        text = ("internal f void { 0($0 i32): $1 = call i32 get() !1 switch $1, 1: 7(), 2: 3(), 3: 5(), else 4() 7(): call void put($0) !2 call void f($1) !3 ret 3(): call void f(i32 7) !4 ret 5(): call void f($0) !5 call void put($0) !6 ret 4(): ret } "
                "export main i32 { 0(): call void f(i32 1) !1 ret i32 0 }")
        certificate = self.passed(tails, self.module(text), "f")[0]
        self.assertEqual(certificate, (("split_entry", "f", 8, (2,)), ("tail", "f", 3), ("tail", "f", 7)))
        self.leaves(tails, text)

    def test_no_tail_block(self):
        for text in (self.SUM.format("", "").replace("ret $5", "ret $4"), self.SUM.format("", "").replace("!1 ret $5", "!1 $6 = add i32 $5, i32 0 ret $6"), self.SUM.format("", "").replace("!1 ret $5", "!1 br 9() 9(): ret $5")):
            self.leaves(tails, text, "f")
        # A call of another function.
        self.leaves(tails, "internal f i32 { 0(): $0 = call i32 g() !1 ret $0 } internal g i32 { 0(): ret i32 1 }", "f")

    def test_result_that_a_block_that_is_not_reached_uses(self):
        text = self.SUM.format("", "9(): ret $5")
        certificate, changed = self.passed(tails, self.module(text), "f")
        self.assertEqual(self.words(certificate), ["split_entry"])
        self.assertEqual([block[0] for block in changed[1][0][3] if is_tail(changed[1][0], block)], [2])

    def test_the_entry_as_tail_block(self):
        text = "internal f void { 0($0 i32): call void f($0) !1 ret } export main i32 { 0(): call void f(i32 1) !1 ret i32 0 }"
        self.assertEqual(self.words(self.passed(tails, self.module(text), "f")[0]), ["split_entry", "tail"])

    def test_random(self):
        found = 0
        for seed in range(250):
            module = random_module(seed)
            for function in module[1]:
                certificate, changed = self.passed(tails, module, function[0])
                due = sorted(block[0] for block in function[3] if is_tail(function, block))
                self.assertLessEqual({step[2] for step in certificate if step[0] == "tail"}, set(due))
                after = find_function(changed, function[0])
                self.assertEqual([block[0] for block in after[3] if is_tail(after, block) and block[0] not in due], [])
                self.assertEqual(tails(changed, function[0]), ())
                found += certificate != ()
        self.assertGreater(found, 8)


if __name__ == "__main__":
    unittest.main()
