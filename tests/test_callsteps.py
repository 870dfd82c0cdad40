"""Promises 7.27 to 7.30: calls and functions."""

import unittest

from burnish.callsteps import drop_argument, drop_function, drop_result, inline, same_argument, same_function, split_entry, tail
from burnish.run import run
from stepping import StepCase
from test_bounds import big_function, shallow


class InlineTest(StepCase):

    ADD = "internal add i32 { 0($0 i32, $1 i32): $2 = add i32 $0, $1 $3 = icmp ult i32 $2, i32 9 condbr $3, 1($2), 2() 1($4 i32): call void put($1) !7 ret $4 2(): $5 = mul i32 $2, $0 ret $5 }"
    MAIN = "export main i32 {{ 0(): $0 = call i32 get() !1 br 1() 1(): {}$1 = call i32 add($0, i32 3) !2 $2 = add i32 $1, $0 br 2($1) 2($3 i32): $4 = add i32 $3, $2 call void put($1) !3 ret $4 }}"

    def test_inline(self):
        text = self.ADD + self.MAIN.format("")
        due = self.ADD + ("export main i32 { 0(): $0 = call i32 get() !1 br 1() 1(): br 10() 2($3 i32): $4 = add i32 $3, $2 call void put($20) !3 ret $4 9($20 i32): $2 = add i32 $20, $0 br 2($20) "
                          "10(): $21 = add i32 $0, i32 3 $22 = icmp ult i32 $21, i32 9 condbr $22, 11($21), 12() 11($23 i32): call void put(i32 3) !7 br 9($23) 12(): $24 = mul i32 $21, $0 br 9($24) }")
        self.done(text, ("inline", "main", 1, 0, 9, (10, 11, 12), (20, 21, 22, 23, 24)), due)
        due = due.replace("1(): br 10()", "1(): $5 = xor i32 $0, i32 1 br 10()")
        self.done(self.ADD + self.MAIN.format("$5 = xor i32 $0, i32 1 "), ("inline", "main", 1, 1, 9, (10, 11, 12), (20, 21, 22, 23, 24)), due)

    def test_names_that_stand_in_both_functions(self):
        # The new names may be numbers that the callee uses for something else.
        text = "internal f i32 { 0($9 i32, $8 i32): $7 = sub i32 $9, $8 ret $7 } export main i32 { 0(): $0 = call i32 get() !1 $1 = call i32 f($0, i32 5) !2 ret $1 }"
        due = "internal f i32 { 0($9 i32, $8 i32): $7 = sub i32 $9, $8 ret $7 } export main i32 { 0(): $0 = call i32 get() !1 br 2() 1($8 i32): ret $8 2(): $9 = sub i32 $0, i32 5 br 1($9) }"
        self.done(text, ("inline", "main", 0, 1, 1, (2,), (8, 9)), due)

    def test_void_and_blocks_without_return(self):
        text = ("internal f void { 3($0 i32): switch $0, 7: 4(), else 5() 4(): stop !8 5(): call void put($0) !9 ret 6(): ret } "
                "export main i32 { 0(): $0 = call i32 get() !1 call void f($0) !2 call void put(i32 66) !3 ret i32 5 }")
        due = text[:text.index("export")] + ("export main i32 { 0(): $0 = call i32 get() !1 br 2() 1(): call void put(i32 66) !3 ret i32 5 2(): switch $0, 7: 3(), else 4() 3(): stop !8 "
                                             "4(): call void put($0) !9 br 1() 5(): br 1() }")
        self.done(text, ("inline", "main", 0, 1, 1, (2, 3, 4, 5), ()), due)

    def test_allocas_end_with_the_call(self):
        text = ("internal f ptr { 0($0 i32): $1 = alloca 4 $2 = alloca 8 store i32 $0, $1 !4 $3 = icmp eq i32 $0, i32 0 condbr $3, 1(), 2() 1(): kill $2 ret $1 2(): ret null } "
                "export main i32 { 0(): $0 = call i32 get() !1 $1 = call ptr f($0) !2 $2 = load i32 $1 !3 ret $2 }")
        due = text[:text.index("export")] + ("export main i32 { 0(): $0 = call i32 get() !1 br 2() 1($10 ptr): $2 = load i32 $10 !3 ret $2 2(): $11 = alloca 4 $12 = alloca 8 store i32 $0, $11 !4 $13 = icmp eq i32 $0, i32 0 "
                                             "condbr $13, 3(), 4() 3(): kill $12 kill $11 kill $12 br 1($11) 4(): kill $11 kill $12 br 1(null) }")
        changed = self.done(text, ("inline", "main", 0, 1, 1, (2, 3, 4), (10, 11, 12, 13)), due)
        self.assertEqual(run(changed, [0], fuel=100)[1], ("trap", "memory", 3))

    def test_recursion_and_calls_inside(self):
        text = ("internal f i32 { 0($0 i32): $1 = icmp eq i32 $0, i32 0 condbr $1, 1(), 2() 1(): ret i32 1 2(): $2 = sub i32 $0, i32 1 $3 = call i32 f($2) !4 $4 = add i32 $3, $3 ret $4 } "
                "export main i32 { 0(): $1 = call i32 f(i32 5) !2 ret $1 }")
        due = text[:text.index("export")] + ("export main i32 { 0(): br 2() 1($2 i32): ret $2 2(): $3 = icmp eq i32 i32 5, i32 0 condbr $3, 3(), 4() 3(): br 1(i32 1) "
                                             "4(): $4 = sub i32 i32 5, i32 1 $5 = call i32 f($4) !4 $6 = add i32 $5, $5 br 1($6) }")
        self.done(text, ("inline", "main", 0, 0, 1, (2, 3, 4), (2, 3, 4, 5, 6)), due)
        self.refused(text, ("inline", "f", 2, 1, 7, (8, 9, 10), (12, 13, 14, 15, 16)))

    def test_what_is_refused(self):
        text = self.ADD + self.MAIN.format("")
        good = ("inline", "main", 1, 0, 9, (10, 11, 12), (20, 21, 22, 23, 24))
        self.refused(text, *[good[:6] + (names,) for names in (good[6][:4], good[6] + (25,), (20, 21, 22, 23, 23), (20, 21, 22, 23, 4), (20, 21, 22, 23, 10 ** 9))])
        self.refused(text, *[good[:4] + told + good[6:] for told in ((9, (10, 11)), (9, (10, 11, 12, 13)), (9, (10, 11, 11)), (9, (9, 10, 11)), (2, (10, 11, 12)), (9, (10, 1, 12)), (9, (10, -1, 12)), (9, (10, 11, 10 ** 9)))])
        self.refused(text, *[("inline", "main", label, k) + good[4:] for label, k in ((0, 0), (1, 1), (1, 2), (1, -2), (2, 1), (7, 0))], ("inline", "f") + good[2:], ("inline", "add") + good[2:])
        # An alloca that is not in the entry.
        text = "internal f i32 { 0(): br 1() 1(): $0 = alloca 4 ret i32 0 } export main i32 { 0(): $1 = call i32 f() !2 ret $1 }"
        self.refused(text, ("inline", "main", 0, 0, 7, (8, 9), (10, 11)))


class SplitEntryTest(StepCase):

    def test_split_entry(self):
        text = "global g 1 2 3 4 internal f i32 { 4($0 i32, $1 ptr): $2 = load i32 $1 !1 $3 = add i32 $0, $2 ret $3 } export main i32 { 0(): $0 = call i32 get() !1 $1 = call i32 f($0, @g) !2 ret $1 }"
        self.done(text, ("split_entry", "f", 9, (8, 7)), text.replace("4($0 i32", "9($8 i32, $7 ptr): br 4($8, $7) 4($0 i32"))
        self.done(text, ("split_entry", "main", 3, ()), text.replace("0(): $0 = call", "3(): br 0() 0(): $0 = call"))
        good = ("split_entry", "f", 9, (8, 7))
        self.refused(text, *[good[:3] + (names,) for names in ((8,), (8, 7, 6), (), (8, 8), (8, 0), (8, 10 ** 9))], *[good[:2] + (label,) + good[3:] for label in (4, -1, 10 ** 9)], ("split_entry", "h") + good[2:])


class TailTest(StepCase):

    TEXT = ("internal f i32 {{ {} 2($2 i32, $3 i32): $4 = icmp eq i32 $2, i32 0 condbr $4, 3(), 4() 3(): ret $3 4(): $5 = sub i32 $2, i32 1 $6 = add i32 $3, $2 {} }} "
            "export main i32 {{ 0(): $0 = call i32 f(i32 9, i32 1) !1 ret $0 }}")
    ENTRY = "1($0 i32, $1 i32): br 2($0, $1)"
    END = "$7 = call i32 f($5, $6) !2 ret $7"

    def test_tail(self):
        self.done(self.TEXT.format(self.ENTRY, self.END), ("tail", "f", 4), self.TEXT.format(self.ENTRY, "br 2($5, $6)"))
        text = "internal f void { 1($0 i32): br 2($0) 2($2 i32): call void put($2) !1 $4 = icmp eq i32 $2, i32 70 condbr $4, 3(), 4() 3(): ret 4(): $5 = add i32 $2, i32 1 call void f($5) !2 ret } export main i32 { 0(): call void f(i32 65) !1 ret i32 0 }"
        self.done(text, ("tail", "f", 4), text.replace("call void f($5) !2 ret", "br 2($5)"))
        text = "internal f void { 1(): br 2() 2(): $0 = call i32 get() !1 $1 = icmp eq i32 $0, i32 0 condbr $1, 3(), 4() 3(): ret 4(): call void f() !2 ret } export main i32 { 0(): call void f() !1 ret i32 0 }"
        self.done(text, ("tail", "f", 4), text.replace("call void f() !2 ret", "br 2()"))

    def test_objects_live_on(self):
        text = ("internal f i32 { 1($0 i32, $1 ptr): br 2($0, $1) 2($2 i32, $3 ptr): $4 = alloca 4 store i32 $2, $4 !1 $5 = icmp eq i32 $2, i32 0 condbr $5, 3(), 4() 3(): $6 = load i32 $3 !2 ret $6 "
                "4(): $7 = sub i32 $2, i32 1 $8 = call i32 f($7, $4) !3 ret $8 } export main i32 { 0(): $0 = call i32 f(i32 3, null) !1 ret $0 }")
        self.done(text, ("tail", "f", 4), text.replace("$8 = call i32 f($7, $4) !3 ret $8", "br 2($7, $4)"))

    def test_what_is_refused(self):
        good = ("tail", "f", 4)
        for entry in ("1($0 i32, $1 i32): $9 = add i32 $0, i32 1 br 2($0, $1)", "1($0 i32, $1 i32): br 2($1, $0)", "1($0 i32, $1 i32): br 2($0, $0)", "1($0 i32, $1 i32): br 2($0, i32 1)",
                      "1($0 i32, $1 i32): condbr i1 1, 2($0, $1), 2($0, $1)", "1($0 i32, $1 i32): br 9($0) 9($9 i32): br 2($9, $1)"):
            self.refused(self.TEXT.format(entry, self.END), good)
        self.refused(self.TEXT.format(self.ENTRY, self.END.replace("$5, $6", "$5, $1")), good)
        for end in ("$7 = call i32 f($5, $6) !2 ret $6", "$7 = call i32 f($5, $6) !2 ret i32 0", "$7 = call i32 f($5, $6) !2 br 3()", "$7 = call i32 f($5, $6) !2 $8 = add i32 $7, i32 1 ret $7", "$7 = add i32 $5, $6 ret $7",
                    "$7 = call i32 get() !2 ret $7", "ret $6", "stop !2", "$7 = call i32 f($5, $6) !2 br 9($7) 9($8 i32): ret $8"):
            self.refused(self.TEXT.format(self.ENTRY, end), good)
        self.refused(self.TEXT.format(self.ENTRY, self.END), ("tail", "f", 1), ("tail", "f", 2), ("tail", "f", 3), ("tail", "f", 9), ("tail", "main", 0), ("tail", "h", 4))
        # A call of another function.
        self.refused("internal g i32 { 1($0 i32, $1 i32): ret $0 }" + self.TEXT.format(self.ENTRY, self.END.replace("i32 f", "i32 g")), good)
        self.faulty(self.TEXT.format(self.ENTRY, self.END + " 9(): ret $7"), good)

    def test_entries_that_do_more(self):
        self.refused(self.TEXT.format(self.ENTRY.replace("br 2", "call void put(i32 65) !9 br 2"), self.END), ("tail", "f", 4))
        for end in ("stop !1", "ret", "condbr i1 1, 2(), 2()"):
            self.refused("internal f void { 1(): " + end + " 2(): call void f() !2 ret }", ("tail", "f", 2))

    def test_results_that_decide(self):
        text = "internal f i1 { 1($0 i1): br 2($0) 2($1 i1): $2 = call i1 f(i1 0) !1 condbr $2, 3(), 3() 3(): ret $1 }"
        self.refused(text, ("tail", "f", 2))

    def test_functions_with_the_name_of_a_predicate(self):
        # Such a name stands in the data of an icmp, too.
        text = ("internal eq i32 { 1($0 i32): br 2($0) 2($1 i32): $2 = icmp eq i32 $1, i32 0 condbr $2, 3(), 4() 3(): $3 = icmp eq i32 $1, i32 1 ret $1 4(): $4 = sub i32 $1, i32 1 $5 = call i32 eq($4) !1 ret $5 } "
                "export main i32 { 0(): $0 = call i32 eq(i32 3) !2 $1 = icmp eq i32 $0, i32 0 ret i32 0 }")
        self.done(text, ("tail", "eq", 4), text.replace("$5 = call i32 eq($4) !1 ret $5", "br 2($4)"))
        self.refused("internal eq i1 { 1(): br 2() 2(): $0 = icmp eq i8 i8 1, i8 1 ret $0 }", ("tail", "eq", 2))
        self.refused(text, ("drop_function", "eq"))
        only = "internal eq void { 1($0 i32): ret } export main i32 { 0(): $1 = icmp eq i32 i32 1, i32 0 ret i32 0 }"
        self.done(only, ("drop_function", "eq"), "export main i32 { 0(): $1 = icmp eq i32 i32 1, i32 0 ret i32 0 }")
        self.done(only, ("drop_argument", "eq", 0), only.replace("$0 i32", ""))
        self.done(only, ("same_argument", "eq", 0, ("int", "i32", 7)), only)
        first = "internal eq i1 { 0($0 i8): $1 = icmp eq i8 $0, i8 1 ret $1 } "
        second = "internal ne i1 { 0($0 i8): $1 = icmp eq i8 $0, i8 1 ret $1 } "
        self.refused(first + second.replace("icmp eq", "icmp ne"), ("same_function", "eq", "ne"))
        self.done(first + second, ("same_function", "eq", "ne"), first + second)

    def test_the_end_of_a_void_function(self):
        text = "internal f void { 1(): br 2() 2(): $0 = call i32 get() !1 call void f() !2 stop !3 } export main i32 { 0(): call void f() !1 ret i32 0 }"
        self.refused(text, ("tail", "f", 2))


class ArgumentTest(StepCase):

    TEXT = ("global g 1 2 3 4 {} f i32 {{ 0($0 i32, $1 ptr, $2 i8): {} }} internal h i32 {{ 0($0 i32): $1 = call i32 f($0, @g, i8 1) !1 ret $1 }} "
            "export main i32 {{ 0(): $0 = call i32 get() !1 $1 = call i32 f($0, @g, i8 2) !2 $2 = call i32 h($1) !3 $3 = call i32 f($2, @g, i8 1) !4 ret $3 }}")
    BODY = "$3 = load i32 $1 !1 $4 = icmp eq i32 $3, i32 0 condbr $4, 1(), 2() 1(): $5 = call i32 f($0, $1, i8 1) !2 ret $5 2(): ret $0"

    def test_drop_argument(self):
        text = self.TEXT.format("internal", self.BODY)
        due = text.replace(", $2 i8", "")
        for shown in ("i8 1", "i8 2"):
            due = due.replace(", " + shown + ")", ")")
        self.done(text, ("drop_argument", "f", 2), due)
        text = self.TEXT.format("internal", "$9 = zext i32 $2 ret $9")
        due = text.replace("0($0 i32, $1 ptr", "0($1 ptr").replace("f($0, @g", "f(@g").replace("f($2, @g", "f(@g")
        self.done(text, ("drop_argument", "f", 0), due)
        self.refused(text, *[("drop_argument", "f", i) for i in (2, 3, -1, -3)], ("drop_argument", "none", 0))
        self.refused(self.TEXT.format("internal", self.BODY), ("drop_argument", "f", 0), ("drop_argument", "f", 1), ("drop_argument", "h", 0), ("drop_argument", "main", 0))
        self.refused(self.TEXT.format("export", self.BODY), ("drop_argument", "f", 2))

    def test_same_argument(self):
        text = self.TEXT.format("internal", self.BODY)
        self.done(text, ("same_argument", "f", 1, ("global", "g")), text.replace("load i32 $1", "load i32 @g").replace("f($0, $1, i8 1)", "f($0, @g, i8 1)"))
        self.refused(text, ("same_argument", "f", 0, ("name", 0)), ("same_argument", "f", 2, ("int", "i8", 1)), ("same_argument", "f", 2, ("int", "i8", 2)), ("same_argument", "f", 1, ("null",)), ("same_argument", "f", 1, ("global", "h")),
                     ("same_argument", "f", 3, ("global", "g")), ("same_argument", "f", -2, ("global", "g")), ("same_argument", "none", 1, ("global", "g")), ("same_argument", "f", 1, ("name", 1)))
        self.refused(self.TEXT.format("export", self.BODY), ("same_argument", "f", 1, ("global", "g")))
        # The same name in another function is another operand.
        text = "internal f i32 { 0($0 i32): ret $0 } export main i32 { 0(): $0 = call i32 get() !1 $1 = call i32 f($0) !2 $2 = call i32 f(i32 3) !3 ret $2 }"
        self.refused(text, ("same_argument", "f", 0, ("int", "i32", 3)))
        text = "internal f i32 { 0($0 i32): ret $0 } export main i32 { 0(): $1 = call i32 f(i32 3) !2 $2 = call i32 f(i32 3) !3 ret $2 }"
        self.done(text, ("same_argument", "f", 0, ("int", "i32", 3)), text.replace("ret $0", "ret i32 3"))
        self.refused(text, ("same_argument", "f", 0, ("int", "i32", 4)), ("same_argument", "f", 0, ("int", "i8", 3)))

    def test_calls_within_the_function(self):
        text = "internal f i32 {{ 0($0 i32, $1 i32): $2 = call i32 f({}, $1) !1 ret $2 }} export main i32 {{ 0(): $0 = call i32 f(i32 3, i32 4) !2 ret $0 }}"
        self.done(text.format("$0"), ("same_argument", "f", 0, ("int", "i32", 3)), text.format("i32 3"))
        self.refused(text.format("$1"), ("same_argument", "f", 0, ("int", "i32", 3)))
        self.refused(text.format("i32 4"), ("same_argument", "f", 0, ("int", "i32", 3)))

    def test_functions_that_nothing_calls(self):
        text = "global g 1 internal f i32 { 0($0 i32, $1 ptr): ret $0 } export main i32 { 0(): ret i32 0 }"
        self.done(text, ("same_argument", "f", 0, ("int", "i32", 3)), text.replace("ret $0", "ret i32 3"))
        # Nothing uses the second parameter, so the operand may have any kind; the first one is used.
        for operand in (("int", "i8", 3), ("int", "i64", 0), ("null",), ("global", "g")):
            self.done(text, ("same_argument", "f", 1, operand), text)
        self.faulty(text, ("same_argument", "f", 0, ("int", "i8", 3)), ("same_argument", "f", 0, ("null",)))
        self.refused(text, ("same_argument", "f", 1, ("global", "none")), ("same_argument", "f", 1, ("name", 0)), ("same_argument", "f", 1, ("name", 1)))
        inner = "internal f void { 0($0 i32): call void f($0) !1 ret } export main i32 { 0(): ret i32 0 }"
        self.done(inner, ("same_argument", "f", 0, ("int", "i32", 3)), inner.replace("f($0)", "f(i32 3)"))
        self.faulty(inner, ("same_argument", "f", 0, ("int", "i8", 3)))
        self.done(text, ("drop_argument", "f", 1), text.replace(", $1 ptr", ""))


class ResultTest(StepCase):

    def test_drop_result(self):
        text = "internal f i32 { 0($0 i32): $1 = icmp eq i32 $0, i32 0 condbr $1, 1(), 2() 1(): ret $0 2(): call void put($0) !1 $2 = call i32 f(i32 0) !2 ret i32 3 } export main i32 { 0(): $0 = call i32 get() !1 $1 = call i32 f($0) !2 ret $0 }"
        due = text.replace("f i32 { 0($0", "f void { 0($0").replace("1(): ret $0", "1(): ret").replace("$2 = call i32 f", "call void f").replace("ret i32 3", "ret").replace("$1 = call i32 f", "call void f")
        self.done(text, ("drop_result", "f"), due)
        self.refused(due, ("drop_result", "f"))
        self.refused(text, ("drop_result", "main"), ("drop_result", "none"))
        self.refused(text.replace("internal f", "export f"), ("drop_result", "f"))
        for old, new in (("ret $0 }", "ret $1 }"), ("ret i32 3", "ret $2"), ("ret $0 }", "ret $0 1(): ret $1 }")):
            self.refused(text.replace(old, new), ("drop_result", "f"))

    def test_drop_function(self):
        text = "internal f i32 { 0(): $0 = call i32 f() !1 ret $0 } internal h i32 { 0(): $0 = call i32 k() !1 ret $0 } internal k i32 { 0(): $0 = call i32 h() !1 ret $0 } export e i32 { 0(): ret i32 0 } export main i32 { 0(): ret i32 0 }"
        self.done(text, ("drop_function", "f"), text.replace("internal f i32 { 0(): $0 = call i32 f() !1 ret $0 } ", ""))
        self.refused(text, *[("drop_function", name) for name in ("h", "k", "e", "main", "none")])
        self.refused(text.replace("export e i32 { 0(): ret i32 0", "export e i32 { 0(): ret i32 0 1(): $0 = call i32 f() !1 ret $0"), ("drop_function", "f"))


class SameFunctionTest(StepCase):

    F = "internal f i32 { 0($0 i32): $1 = icmp eq i32 $0, i32 0 condbr $1, 1(), 2() 1(): ret $0 2(): $2 = sub i32 $0, i32 1 $3 = call i32 f($2) !3 ret $3 } "
    H = "internal h i32 { 7($9 i32): $8 = icmp eq i32 $9, i32 0 condbr $8, 3(), 1() 3(): ret $9 1(): $0 = sub i32 $9, i32 1 $5 = call i32 h($0) !3 ret $5 } "
    MAIN = "internal k i32 { 0(): $0 = call i32 f(i32 3) !1 ret $0 } export main i32 { 0(): $0 = call i32 f(i32 3) !1 $1 = call i32 h(i32 4) !2 $2 = call i32 k() !3 ret $1 }"

    def test_same_function(self):
        self.done(self.F + self.H + self.MAIN, ("same_function", "f", "h"), self.F + self.H + self.MAIN.replace("i32 f(", "i32 h("))
        self.done(self.F + self.H + self.MAIN, ("same_function", "h", "f"), self.F + self.H + self.MAIN.replace("i32 h(", "i32 f("))
        # H itself may call G.
        text = "internal f i32 { 0(): ret i32 1 } internal h i32 { 3(): ret i32 1 } internal k i32 { 0(): $0 = call i32 f() !1 ret $0 } export main i32 { 0(): $0 = call i32 k() !1 ret $0 }"
        self.done(text, ("same_function", "f", "h"), text.replace("i32 f()", "i32 h()"))

    def test_what_is_refused(self):
        self.refused(self.F + self.H + self.MAIN, ("same_function", "f", "f"), ("same_function", "f", "k"), ("same_function", "f", "main"), ("same_function", "f", "none"), ("same_function", "none", "f"))
        for old, new in (("!3", "!4"), ("i32 1 $5", "i32 2 $5"), ("i32 0 condbr", "i32 5 condbr"), ("eq", "ne"), ("ret $5", "ret $0"), ("call i32 h", "call i32 f"), ("3(), 1()", "1(), 3()"), ("internal", "export"),
                         ("$0 = sub i32 $9", "$0 = sub i32 i32 1"), ("1(): $0 = sub", "1(): $77 = sub i32 $9, i32 1 $0 = sub")):
            self.assertIn(old, self.H)
            self.refused(self.F + self.H.replace(old, new) + self.MAIN, ("same_function", "f", "h"))
        # The order of the blocks counts.
        blocks = "internal {} i32 {{ 0(): condbr i1 1, 1(), 2() {} }} "
        text = blocks.format("f", "1(): ret i32 1 2(): ret i32 2") + blocks.format("h", "2(): ret i32 2 1(): ret i32 1")
        self.refused(text, ("same_function", "f", "h"))
        for f, h in (("i32", "void"), ("$0 i32", "$0 i8")):
            text = "internal f {} {{ 0({}): {} }}"
            first = text.format("i32", "$0 i32", "ret i32 1")
            second = text.format("void", "$0 i32", "ret") if f == "i32" else text.format("i32", "$0 i8", "ret i32 1")
            self.refused(first + second.replace(" f ", " h "), ("same_function", "f", "h"))

    def test_calls_of_each_other(self):
        text = "internal f i32 { 0(): $0 = call i32 h() !1 ret $0 } internal h i32 { 0(): $0 = call i32 f() !1 ret $0 }"
        self.refused(text, ("same_function", "f", "h"))
        text = "internal f i32 { 0(): $0 = call i32 h() !1 ret $0 } internal h i32 { 0(): $0 = call i32 h() !1 ret $0 }"
        self.refused(text, ("same_function", "f", "h"), ("same_function", "h", "f"))


class BoundsTest(unittest.TestCase):

    def test_greatest_functions(self):
        function = big_function()
        callee = ("f", "i32", True, function[3])
        blocks = ((0, (), ((0, "call", "i32", (), ("f",), 1),), ("ret", ("name", 0))),)
        module = ((), (callee, ("main", "i32", False, blocks)))
        names = tuple(range(1, 20002))
        self.assertEqual(len(shallow(lambda: inline(module, ("inline", "main", 0, 0, 9000, tuple(range(1, 2001)), names)))[1][1][3]), 2002)
        self.assertIsNotNone(shallow(lambda: split_entry(module, ("split_entry", "f", 9000, ()))))
        self.assertIsNone(shallow(lambda: tail(module, ("tail", "f", 7))))
        twin = (module[0], (callee, ("h",) + callee[1:], module[1][1]))
        self.assertIsNotNone(shallow(lambda: same_function(twin, ("same_function", "f", "h"))))
        self.assertIsNotNone(shallow(lambda: drop_function(twin, ("drop_function", "h"))))
        self.assertIsNone(shallow(lambda: drop_result(module, ("drop_result", "f"))))

    def test_many_functions_and_arguments(self):
        params = tuple((k, "i32") for k in range(64))
        args = tuple(("int", "i32", k) for k in range(64))
        calls = tuple((k, "call", "i32", args, ("f",), k) for k in range(300))
        functions = (("f", "i32", True, ((0, params, (), ("ret", ("int", "i32", 1))),)),)
        functions += tuple((f"f{k}", "i32", k > 0, ((0, (), calls, ("ret", ("int", "i32", 1))),)) for k in range(62))
        module = ((), functions + (("main", "i32", False, ((0, (), calls, ("ret", ("int", "i32", 1))),)),))
        self.assertIsNotNone(shallow(lambda: drop_argument(module, ("drop_argument", "f", 63))))
        self.assertIsNotNone(shallow(lambda: same_argument(module, ("same_argument", "f", 63, ("int", "i32", 63)))))
        self.assertIsNotNone(shallow(lambda: drop_result(module, ("drop_result", "f"))))


if __name__ == "__main__":
    unittest.main()
