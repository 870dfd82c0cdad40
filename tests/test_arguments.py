"""Promises 10.3 and 10.4: arguments, merge and drop."""

import unittest

from burnish.arguments import arguments, drop, merge
from burnish.callsteps import nameless
from burnish.check import apply_step, check
from burnish.edits import uses
from burnish.records import find_function
from passing import PassCase, random_module
from test_bounds import shallow

MAIN = " export main i32 { 0(): $0 = call i32 get() !1 "


def calls(module, name):
    return [(function[0], row) for function in module[1] for block in function[3] for row in block[2] if row[1] == "call" and row[4] == (name,)]


def slow_arguments(module):
    """Return the steps of arguments, by the words of the document."""
    found = []

    def emit(*step):
        nonlocal module
        found.append(step)
        module = apply_step(module, step)

    before = -1
    while before < len(found):
        before = len(found)
        for name in [function[0] for function in module[1] if function[2]]:
            params = find_function(module, name)[3][0][1]
            for i, (param, _) in enumerate(params):
                passed = {row[3][i] for caller, row in calls(module, name) if (caller, row[3][i]) != (name, ("name", param))}
                if uses(find_function(module, name), param) and len(passed) == 1 and list(passed)[0][0] != "name":
                    emit("same_argument", name, i, list(passed)[0])
            for i in range(len(params) - 1, -1, -1):
                if not uses(find_function(module, name), find_function(module, name)[3][0][1][i][0]):
                    emit("drop_argument", name, i)
            used = any(uses(find_function(module, caller), row[0]) for caller, row in calls(module, name))
            if find_function(module, name)[1] != "void" and not used:
                emit("drop_result", name)
    return tuple(found)


class ArgumentsTest(PassCase):

    def test_parameters(self):
        text = "global g 1 2 3 4 internal f i32 { 0($0 i32, $1 ptr, $2 i8, $3 i32): $4 = load i32 $1 !1 $5 = add i32 $4, $3 ret $5 }" + MAIN + "$1 = call i32 f($0, @g, i8 1, $0) !2 $2 = call i32 f($0, @g, i8 2, i32 5) !3 $3 = add i32 $1, $2 ret $3 }"
        due = "global g 1 2 3 4 internal f i32 { 0($3 i32): $4 = load i32 @g !1 $5 = add i32 $4, $3 ret $5 }" + MAIN + "$1 = call i32 f($0) !2 $2 = call i32 f(i32 5) !3 $3 = add i32 $1, $2 ret $3 }"
        certificate = self.leads(arguments, text, due, "")
        self.assertEqual(certificate, (("same_argument", "f", 1, ("global", "g")), ("drop_argument", "f", 2), ("drop_argument", "f", 1), ("drop_argument", "f", 0)))
        self.cut(arguments, text, "")
        self.leaves(arguments, text.replace("internal", "export"), "")

    def test_calls_within_the_function(self):
        text = "internal f i32 {{ 0($0 i32, $1 i32): $2 = icmp eq i32 $0, $1 condbr $2, 1(), 2() 1(): ret $0 2(): $3 = sub i32 $0, i32 1 $4 = call i32 f($3, {}) !1 ret $4 }}" + MAIN.replace("{", "{{") + "$1 = call i32 f($0, i32 3) !2 ret $1 }}"
        for passed in ("$1", "i32 3"):
            certificate = self.passed(arguments, self.module(text.format(passed)), "")[0]
            self.assertEqual(certificate, (("same_argument", "f", 1, ("int", "i32", 3)), ("drop_argument", "f", 1)))
        for passed in ("$0", "i32 4", "$3"):
            self.leaves(arguments, text.format(passed), "")
        # Only itself calls it, with its parameter: no operand is passed.
        self.assertEqual(self.words(self.passed(arguments, self.module("internal f i32 { 0($0 i32): $1 = call i32 f($0) !1 ret $1 }" + MAIN + "ret $0 }"), "")[0]), [])

    def test_results(self):
        text = "internal f i32 { 0(): ret i32 1 } internal h i32 { 0(): ret i32 2 }" + MAIN + "$1 = call i32 f() !2 $2 = call i32 f() !3 $3 = call i32 h() !4 ret $3 }"
        self.assertEqual(self.passed(arguments, self.module(text), "")[0], (("drop_result", "f"),))
        # The result is only returned by a call of itself.
        text = "internal f i32 { 0(): $0 = call i32 f() !1 ret $0 }" + MAIN + "$1 = call i32 f() !2 ret $0 }"
        self.leaves(arguments, text, "")
        # A function that nothing calls.
        self.assertEqual(self.passed(arguments, self.module("internal f i32 { 0($0 i32): ret $0 }" + MAIN + "ret $0 }"), "")[0], (("drop_result", "f"), ("drop_argument", "f", 0)))

    def test_several_turns(self):
        # The argument of the inner function is known when that of the outer one was put in.
        text = ("internal inner i32 { 0($0 i32): $1 = add i32 $0, i32 1 ret $1 } internal outer i32 { 0($0 i32): $1 = call i32 inner($0) !1 ret $1 }" + MAIN + "$1 = call i32 outer(i32 3) !2 ret $1 }")
        certificate = self.passed(arguments, self.module(text), "")[0]
        self.assertEqual(certificate, (("same_argument", "outer", 0, ("int", "i32", 3)), ("drop_argument", "outer", 0), ("same_argument", "inner", 0, ("int", "i32", 3)), ("drop_argument", "inner", 0)))

    def test_random(self):
        found = 0
        for seed in range(250):
            module = internal(random_module(seed), seed)
            certificate, changed = self.passed(arguments, module, "")
            self.assertEqual(certificate, slow_arguments(module))
            self.assertEqual(arguments(changed, ""), ())
            found += len(certificate)
        self.assertGreater(found, 100)


def internal(module, seed):
    """Return the module with some more functions internal."""
    return (module[0], tuple(function[:2] + (function[0] != "main" and (function[2] or (seed + k) % 2 == 0),) + function[3:] for k, function in enumerate(module[1])))


class MergeTest(PassCase):

    def one(self, name, number, word="internal"):
        return f"{word} {name} i32 {{ {number}($3 i32): $5 = add i32 $3, i32 1 ret $5 }} "

    def test_equal_functions(self):
        text = self.one("a", 0) + self.one("b", 4) + "internal c i32 { 0($0 i32): $1 = add i32 $0, i32 2 ret $1 } " + self.one("d", 1) + "export main i32 { 0(): $0 = call i32 a(i32 1) !1 $1 = call i32 b($0) !2 $2 = call i32 c($1) !3 $3 = call i32 d($2) !4 ret $3 }"
        certificate = self.leads(merge, text, text.replace("i32 b($0)", "i32 a($0)").replace("i32 d($2)", "i32 a($2)"), "")
        self.assertEqual(certificate, (("same_function", "b", "a"), ("same_function", "d", "a")))
        self.cut(merge, text, "")

    def test_first_and_last(self):
        main = "export main i32 { 0(): $0 = call i32 a(i32 1) !1 $1 = call i32 b($0) !2 ret $1 } "
        for text in (main + self.one("a", 0) + self.one("b", 4), self.one("a", 0) + main + self.one("b", 4), self.one("a", 0) + self.one("b", 4) + main):
            self.assertEqual(self.passed(merge, self.module(text), "")[0], (("same_function", "b", "a"),))

    def test_left_alone(self):
        main = "export main i32 { 0(): $0 = call i32 a(i32 1) !1 ret $0 } "
        # Nothing calls the later one; one of them is not internal.
        self.leaves(merge, self.one("a", 0) + self.one("b", 4) + main, "")
        self.leaves(merge, self.one("a", 0, "export") + self.one("b", 4) + main.replace("i32 a(", "i32 b("), "")
        self.leaves(merge, self.one("a", 0) + self.one("b", 4).replace("add i32 $3, i32 1", "add i32 i32 1, $3") + main.replace("i32 a(", "i32 b("), "")

    def test_calls_of_itself(self):
        one = "internal {0} i32 {{ 0($0 i32): $1 = icmp eq i32 $0, i32 0 condbr $1, 1(), 2() 1(): ret $0 2(): $2 = sub i32 $0, i32 1 $3 = call i32 {0}($2) !1 ret $3 }} "
        text = one.format("a") + one.format("b") + "export main i32 { 0(): $0 = call i32 a(i32 3) !1 $1 = call i32 b(i32 4) !2 ret $1 }"
        self.assertEqual(self.passed(merge, self.module(text), "")[0], (("same_function", "b", "a"),))
        # Only b calls b.
        self.leaves(merge, text.replace("call i32 b(i32 4)", "call i32 a(i32 4)"), "")

    def test_functions_that_become_equal(self):
        two = "internal {} i32 {{ 0($0 i32): $1 = call i32 {}($0) !1 ret $1 }} "
        text = self.one("a", 0) + self.one("b", 4) + two.format("c", "a") + two.format("d", "b") + "export main i32 { 0(): $0 = call i32 c(i32 1) !1 $1 = call i32 d($0) !2 ret $1 }"
        self.assertEqual(self.passed(merge, self.module(text), "")[0], (("same_function", "b", "a"), ("same_function", "d", "c")))

    def test_random(self):
        found = 0
        for seed in range(250):
            module = random_module(seed)
            certificate, changed = self.passed(merge, module, "")
            found += len(certificate)
            for k, function in enumerate(changed[1]):
                called = any(caller != function[0] for caller, _ in calls(changed, function[0]))
                if certificate == () and called:
                    self.assertFalse(any(nameless(other) == nameless(function) for other in changed[1][:k]))
        self.assertGreater(found, 3)


class DropTest(PassCase):

    def test_functions_and_globals(self):
        text = ("global g 1 constant h 2 global k 3 internal a i32 { 0(): $0 = call i32 b() !1 ret $0 } internal b i32 { 0(): $0 = load i8 @g !1 $1 = call i32 c() !2 ret $1 } internal c i32 { 0(): $0 = call i32 c() !1 ret $0 } "
                "export d i32 { 0(): ret i32 1 } export main i32 { 0(): $0 = load i8 @h !1 ret i32 0 }")
        certificate = self.leads(drop, text, "constant h 2 export d i32 { 0(): ret i32 1 } export main i32 { 0(): $0 = load i8 @h !1 ret i32 0 }", "")
        self.assertEqual(certificate, (("drop_function", "a"), ("drop_function", "b"), ("drop_function", "c"), ("drop_global", "g"), ("drop_global", "k")))
        self.cut(drop, text, "")
        self.leaves(drop, "export main i32 { 0(): ret i32 0 }", "")

    def test_functions_that_call_each_other(self):
        text = "internal a i32 { 0(): $0 = call i32 b() !1 ret $0 } internal b i32 { 0(): $0 = call i32 a() !1 ret $0 } export main i32 { 0(): ret i32 0 }"
        self.leaves(drop, text, "")

    def test_the_first_one_each_time(self):
        # Dropping c lets b go, which stands ahead of d.
        text = "internal b i32 { 0(): ret i32 1 } internal c i32 { 0(): $0 = call i32 b() !1 ret $0 } internal d i32 { 0(): ret i32 1 } export main i32 { 0(): ret i32 0 }"
        self.assertEqual(drop(self.module(text), ""), (("drop_function", "c"), ("drop_function", "b"), ("drop_function", "d")))

    def test_random(self):
        found = 0
        for seed in range(200):
            module = internal(random_module(seed), seed)
            certificate, changed = self.passed(drop, module, "")
            for function in changed[1]:
                self.assertTrue(not function[2] or any(caller != function[0] for caller, _ in calls(changed, function[0])))
            self.assertEqual(drop(changed, ""), ())
            found += len(certificate)
        self.assertGreater(found, 50)

    def test_greatest_module(self):
        functions = tuple((f"f{k}", "i32", True, ((0, ((0, "i32"), (1, "i32")), ((2, "call", "i32", (("int", "i32", 1), ("name", 0)), (f"f{k + 1}",), 1),) if k < 62 else (), ("ret", ("name", 2 if k < 62 else 1))),)) for k in range(63))
        module = (tuple((f"g{k}", False, (k,)) for k in range(64)), functions + (("main", "i32", False, ((0, (), ((0, "call", "i32", (("int", "i32", 5), ("int", "i32", 6)), ("f0",), 1),), ("ret", ("name", 0))),)),))
        for action in (arguments, merge, drop):
            certificate = shallow(lambda: action(module, ""))
            self.assertEqual(shallow(lambda: check(module, certificate))[1], -1)
        self.assertEqual(len(drop(module, "")), 64)


if __name__ == "__main__":
    unittest.main()
