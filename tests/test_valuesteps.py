"""Promises 7.14 to 7.22: steps that change pure instructions and the values that are used."""

import unittest

from burnish.demand import solve_demand
from burnish.effects import solve_effects
from burnish.equations import solve_equations
from burnish.linear import solve_linear
from burnish.parse import parse_module
from burnish.solve import solve_values
from burnish.valuesteps import drop_names, equal, insert, linear, move, prefer, ranges, same, undemanded
from stepping import StepCase
from test_bounds import big_function, shallow

GET = "0(): $0 = call i32 get() !1 $1 = icmp ult i32 $0, i32 5 "
NOTHING = ((), (), ())
TOP = 2 ** 32 - 1


def name(n):
    return ("name", n)


def number(n, kind="i32"):
    return ("int", kind, n)


class ValueCase(StepCase):

    def tables(self, text):
        """Return main of a text, and its solved value table."""
        module = self.module(text)
        function = [function for function in module[1] if function[0] == "main"][0]
        return function, solve_values(module, function)


class InsertTest(ValueCase):

    TEXT = GET + "condbr $1, 1(), 2() 1(): $2 = add i32 $0, i32 1 ret $2 2(): ret $0"

    def test_insert(self):
        row = (9, "mul", "i32", (name(0), number(3)), (), -1)
        self.done(self.TEXT, ("insert", "main", 0, 1, row), self.TEXT.replace("!1 ", "!1 $9 = mul i32 $0, i32 3 "))
        self.done(self.TEXT, ("insert", "main", 0, 2, row), self.TEXT.replace("condbr", "$9 = mul i32 $0, i32 3 condbr"))
        self.done(self.TEXT, ("insert", "main", 1, 0, row), self.TEXT.replace("1(): ", "1(): $9 = mul i32 $0, i32 3 "))
        self.done(self.TEXT, ("insert", "main", 2, 0, (9, "select", "i32", (name(1), name(0), number(3)), (), -1)), self.TEXT.replace("2(): ret", "2(): $9 = select i32 $1, $0, i32 3 ret"))
        for row, shown in (((9, "icmp", "ptr", (("null",), ("null",)), ("eq",), -1), "icmp eq ptr null, null"), ((9, "trunc", "i8", (name(0),), (), -1), "trunc i8 $0"),
                           ((9, "sext", "i64", (name(0),), (), -1), "sext i64 $0"), ((9, "gep", "ptr", (("null",), number(3, "i64")), (4, -8), -1), "gep null, 4, i64 3 * -8")):
            self.done(self.TEXT, ("insert", "main", 2, 0, row), self.TEXT.replace("2(): ret", f"2(): $9 = {shown} ret"))

    def test_what_is_refused(self):
        row = (9, "mul", "i32", (name(0), number(3)), (), -1)
        self.refused(self.TEXT, *[("insert", "main", label, k, row) for label, k in ((0, 0), (0, -1), (0, 3), (1, 2), (2, 1), (7, 0))], ("insert", "f", 0, 1, row))
        self.refused(self.TEXT, *[("insert", "main", 0, 1, (new,) + row[1:]) for new in (0, 1, 2)])
        for wrong in ((9, "mul", "i8", row[3], (), -1), (9, "mul", "i32", (name(1), number(3)), (), -1), (9, "mul", "i32", (name(0), number(3, "i8")), (), -1), (9, "mul", "i32", (name(0), ("null",)), (), -1),
                      (9, "mul", "i32", (name(77), number(3)), (), -1), (9, "mul", "i32", (name(2), number(3)), (), -1), (9, "mul", "i32", (name(9), number(3)), (), -1), (9, "trunc", "i32", (name(0),), (), -1),
                      (9, "trunc", "i64", (name(0),), (), -1), (9, "zext", "i8", (name(0),), (), -1), (9, "select", "i32", (name(0), name(0), name(0)), (), -1), (9, "icmp", "ptr", (("null",), ("null",)), ("ult",), -1),
                      (9, "gep", "ptr", (name(0),), (0,), -1), (9, "gep", "ptr", (("global", "g"),), (0,), -1), (9, "gep", "ptr", (("null",), name(0)), (0, 1), -1), (9, "load", "i8", (("null",),), (), 5)):
            self.refused(self.TEXT, ("insert", "main", 0, 2, wrong))

    def test_blocks_that_are_not_reached(self):
        self.done("0(): ret i32 0 1($0 i8): ret i32 1 2(): ret i32 2", ("insert", "main", 2, 0, (9, "add", "i8", (name(0), name(0)), (), -1)), "0(): ret i32 0 1($0 i8): ret i32 1 2(): $9 = add i8 $0, $0 ret i32 2")


class DropNamesTest(ValueCase):

    TEXT = (GET + "$2 = add i32 $0, i32 1 $3 = mul i32 $2, $2 $4 = alloca 8 $5 = call ptr malloc(i64 8) !2 $6 = udiv i32 $0, i32 7 !3 $7 = udiv i32 i32 7, $0 !4 $8 = gep $4, 0 "
            "$9 = load i32 @g !5 $10 = udiv i32 $0, i32 0 !6 br 1($3, $0) 1($11 i32, $12 i32): $13 = add i32 $11, i32 1 condbr $1, 1($13, $12), 2() 2(): ret $12")
    head = "global g 1 2 3 4"

    def look(self, names, *gone):
        due = self.TEXT
        for part, instead in gone:
            self.assertIn(part, due)
            due = due.replace(part, instead)
        self.done(self.TEXT, ("drop_names", "main", names), due)

    def test_drop_names(self):
        self.look((4, 8), ("$4 = alloca 8 ", ""), ("$8 = gep $4, 0 ", ""))
        self.look((8,), ("$8 = gep $4, 0 ", ""))
        self.look((5,), ("$5 = call ptr malloc(i64 8) !2 ", ""))
        self.look((6,), ("$6 = udiv i32 $0, i32 7 !3 ", ""))
        # A param that only makes itself, through an instruction.
        self.look((11, 13), ("br 1($3, $0)", "br 1($0)"), ("1($11 i32, $12 i32)", "1($12 i32)"), ("$13 = add i32 $11, i32 1 ", ""), ("1($13, $12)", "1($12)"))
        self.look((2, 3, 11, 13), ("$2 = add i32 $0, i32 1 $3 = mul i32 $2, $2 ", ""), ("br 1($3, $0)", "br 1($0)"), ("1($11 i32, $12 i32)", "1($12 i32)"), ("$13 = add i32 $11, i32 1 ", ""), ("1($13, $12)", "1($12)"))

    def test_what_is_refused(self):
        for names in ((), (8, 4), (4, 4), (77,), (4, 77), (0,), (1,), (7,), (9,), (10,), (4,), (2,), (2, 3), (3,), (11,), (13,), (12,), (2, 3, 11), (11, 12, 13), (4, 7, 8)):
            self.refused(self.TEXT, ("drop_names", "main", names))
        self.refused(self.TEXT, ("drop_names", "f", (8,)))

    def test_uses_that_keep(self):
        text = "internal f i32 {{ 0($0 i32, $5 i1): $1 = add i32 $0, i32 1 $2 = trunc i1 $1 $3 = alloca 4 {} }}"
        for rest, names in (("ret $1", (1,)), ("condbr $2, 1(), 1() 1(): ret i32 0", (2,)), ("switch $1, else 1() 1(): ret i32 0", (1, 2)), ("store i32 $1, null !1 ret i32 0", (1,)), ("kill $3 ret i32 0", (3,)),
                            ("br 1($1) 1($4 i32): ret $4", (1, 4)), ("$4 = load i8 $3 !1 ret i32 0", (3,)), ("ret i32 0", (0,)), ("ret i32 0", (5,)), ("$4 = call i32 f($1, $2) !1 ret i32 0", (1, 2))):
            self.refused(text.format(rest), ("drop_names", "f", names))

    def test_other_ends(self):
        text = "internal f void {{ 0($0 i32): {}condbr i1 1, 1(), 2() 1(): stop !3 2(): ret }} export main i32 {{ 0(): call void f(i32 1) !1 ret i32 0 }}"
        self.done(text.format("$1 = add i32 $0, i32 1 "), ("drop_names", "f", (1,)), text.format(""))

    def test_params_that_make_each_other(self):
        self.done(GET + "br 1(i32 1, i32 2) 1($2 i32, $3 i32): condbr $1, 1($3, $2), 2($2) 2($4 i32): ret $0", ("drop_names", "main", (2, 3, 4)), GET + "br 1() 1(): condbr $1, 1(), 2() 2(): ret $0")
        self.done("0(): ret i32 0 1($0 i32): $1 = add i32 $1, $0 br 1($1)", ("drop_names", "main", (0, 1)), "0(): ret i32 0 1(): br 1()")


class DeleteCallTest(ValueCase):

    head = ("constant k 1 2 global g 1 internal none i32 { 0(): ret i32 1 } internal reads i32 { 0(): $0 = load i8 @k !1 ret i32 0 } internal nothing void { 0(): ret } "
            "internal loops i32 { 0(): br 1() 1(): br 1() } internal io i32 { 0(): call void put(i32 1) !1 ret i32 0 } internal traps i32 { 0(): $0 = load i8 @g !1 ret i32 0 } ")
    TEXT = "0(): $0 = call i32 none() !1 $1 = call i32 reads() !2 call void nothing() !3 $2 = call i32 {}() !4 $3 = call i32 none() !5 $4 = call i32 get() !6 ret $3"

    def step(self, text, k, effects=None, label=0, of="main"):
        return ("delete_call", of, effects or solve_effects(self.module(text)), label, k)

    def test_delete_call(self):
        text = self.TEXT.format("loops")
        for k, gone in ((0, "$0 = call i32 none() !1 "), (1, "$1 = call i32 reads() !2 "), (2, "call void nothing() !3 ")):
            self.done(text, self.step(text, k), text.replace(gone, ""))

    def test_what_is_refused(self):
        for callee in ("loops", "io", "traps"):
            text = self.TEXT.format(callee)
            self.refused(text, self.step(text, 3))
        self.refused(text, *[self.step(text, k) for k in (4, 5, 6, -1)], self.step(text, 0, label=1), self.step(text, 0, of="f"))
        self.refused("0(): call void exit(i32 1) !1 $0 = add i32 i32 1, i32 1 ret i32 0", *[self.step("0(): ret i32 0", k) for k in (0, 1)])

    def test_tables(self):
        text = self.TEXT.format("none")
        solved = dict(solve_effects(self.module(text)))
        more = lambda **told: tuple((n, tuple(sorted(told.get(n, row)))) for n, row in solved.items())
        io = ("io", "reads", "traps")
        self.done(text, self.step(text, 0, more(main=io)), text.replace("$0 = call i32 none() !1 ", ""))
        self.done(text, self.step(text, 0, more(none=("reads",), main=io)), text.replace("$0 = call i32 none() !1 ", ""))
        self.refused(text, self.step(text, 0, more(none=("traps",), main=io)), self.step(text, 0, more(main=("io",))), self.step(text, 0, more(loops=())), self.step(text, 0, more(main=io)[1:]))


class SameTest(ValueCase):

    TEXT = GET + "$2 = add i32 $0, i32 7 $3 = add i32 $0, i32 7 $4 = udiv i32 i32 9, $0 !2 condbr $1, 1(), 2() 1(): $5 = add i32 $0, i32 7 $6 = udiv i32 i32 9, $0 !3 $7 = add i32 $5, $6 ret $7 2(): $8 = add i32 $0, i32 7 $9 = add i32 $3, $8 ret $9"

    def test_same(self):
        self.done(self.TEXT, ("same", "main", 0, 3, 0, 2), self.TEXT.replace("$3 = add i32 $0, i32 7 ", "").replace("$3", "$2"))
        self.done(self.TEXT, ("same", "main", 1, 0, 0, 3), self.TEXT.replace("$5 = add i32 $0, i32 7 ", "").replace("$5", "$3"))
        # The places of divisions need not be the same.
        self.done(self.TEXT, ("same", "main", 1, 1, 0, 4), self.TEXT.replace("$6 = udiv i32 i32 9, $0 !3 ", "").replace("$6", "$4"))

    def test_what_is_refused(self):
        for label, k, other, j in ((0, 2, 0, 3), (0, 2, 0, 2), (0, 2, 1, 0), (2, 0, 1, 0), (1, 0, 2, 0), (0, 3, 0, 4), (0, 3, 0, 1), (0, 3, 0, 9), (0, 9, 0, 2), (0, -1, 0, 2), (0, 3, 0, -3), (0, 3, 7, 0), (7, 0, 0, 2), (1, 2, 0, 2)):
            self.refused(self.TEXT, ("same", "main", label, k, other, j))
        self.refused(self.TEXT, ("same", "f", 0, 3, 0, 2))
        # Loads, calls and allocas are neither pure nor divisions.
        text = "global g 1 export main i32 { 0(): $0 = load i8 @g !1 $1 = load i8 @g !1 $2 = call i32 get() !2 $3 = call i32 get() !2 $4 = alloca 4 $5 = alloca 4 $6 = call ptr malloc(i64 1) !3 $7 = call ptr malloc(i64 1) !3 ret i32 0 }"
        self.refused(text, ("same", "main", 0, 1, 0, 0), ("same", "main", 0, 3, 0, 2), ("same", "main", 0, 5, 0, 4), ("same", "main", 0, 7, 0, 6))

    def test_what_must_agree(self):
        text = GET + "$2 = trunc i8 $0 $3 = {} $4 = {} ret i32 0"
        for first, second in (("add i8 $2, i8 1", "sub i8 $2, i8 1"), ("add i8 $2, i8 1", "add i8 $2, i8 2"), ("add i8 $2, i8 1", "add i8 i8 1, $2"), ("zext i32 $2", "zext i64 $2"), ("icmp ult i8 $2, i8 1", "icmp ule i8 $2, i8 1"),
                              ("gep null, 4", "gep null, 5"), ("icmp eq i8 i8 1, i8 1", "icmp eq i32 i32 1, i32 1")):
            self.refused(text.format(first, second), ("same", "main", 0, 4, 0, 3))


class PreferTest(ValueCase):

    TEXT = GET + "$2 = add i32 $0, i32 7 call void put($2) !3 $3 = add i32 $0, i32 7 condbr $1, 1($2), 2() 1($4 i32): $5 = sub i32 $2, $3 call void put($5) !4 ret $4 2(): $6 = add i32 $0, i32 7 $7 = add i32 $2, $6 ret $7"

    def test_prefer(self):
        # Each use of 2 behind the definition of 3.
        self.done(self.TEXT, ("prefer", "main", 2, 3), self.TEXT.replace("1($2)", "1($3)").replace("sub i32 $2", "sub i32 $3").replace("add i32 $2, $6", "add i32 $3, $6"))
        self.done(self.TEXT, ("prefer", "main", 2, 6), self.TEXT.replace("add i32 $2, $6", "add i32 $6, $6"))
        self.done(self.TEXT, ("prefer", "main", 3, 2), self.TEXT.replace("sub i32 $2, $3", "sub i32 $2, $2"))
        self.done(self.TEXT, ("prefer", "main", 6, 3), self.TEXT.replace("add i32 $2, $6", "add i32 $2, $3"))
        self.done(self.TEXT, ("prefer", "main", 2, 2), self.TEXT)

    def test_what_is_refused(self):
        self.refused(self.TEXT, *[("prefer", "main", x, y) for x, y in ((2, 5), (2, 1), (2, 0), (0, 2), (4, 2), (2, 4), (2, 77), (77, 2))], ("prefer", "f", 2, 3))
        self.refused(GET + "$2 = udiv i32 $0, i32 7 !2 $3 = udiv i32 $0, i32 7 !2 ret $3", ("prefer", "main", 3, 2))

    def test_edges_of_the_own_block(self):
        text = GET + "$2 = add i32 $0, i32 7 br 1($2) 1($3 i32): $4 = add i32 $0, i32 7 condbr $1, 2($2), 1($2) 2($5 i32): ret $5"
        self.done(text.replace("1($2) 2", "3($2) 3($6 i32): ret $6 2"), ("prefer", "main", 2, 4), text.replace("2($2), 1($2)", "2($4), 3($4) 3($6 i32): ret $6"))


class MoveTest(ValueCase):

    TEXT = GET + "$2 = add i32 $0, i32 7 $3 = add i32 $0, i32 8 condbr $1, 1(), 2() 1(): call void put($2) !2 $4 = mul i32 $2, $2 ret $4 2(): $5 = sub i32 $0, i32 1 ret $3"

    def test_move(self):
        self.done(self.TEXT, ("move", "main", 0, 2, 0, 3), self.TEXT.replace("$2 = add i32 $0, i32 7 $3 = add i32 $0, i32 8 ", "$3 = add i32 $0, i32 8 $2 = add i32 $0, i32 7 "))
        self.done(self.TEXT, ("move", "main", 0, 3, 0, 1), self.TEXT.replace("$3 = add i32 $0, i32 8 ", "").replace("!1 ", "!1 $3 = add i32 $0, i32 8 "))
        self.done(self.TEXT, ("move", "main", 0, 2, 1, 0), self.TEXT.replace("$2 = add i32 $0, i32 7 ", "").replace("1(): ", "1(): $2 = add i32 $0, i32 7 "))
        self.done(self.TEXT, ("move", "main", 0, 3, 2, 0), self.TEXT.replace("$3 = add i32 $0, i32 8 ", "").replace("2(): ", "2(): $3 = add i32 $0, i32 8 "))
        self.done(self.TEXT, ("move", "main", 2, 0, 0, 4), self.TEXT.replace("$5 = sub i32 $0, i32 1 ", "").replace("condbr", "$5 = sub i32 $0, i32 1 condbr"))
        self.done(self.TEXT, ("move", "main", 0, 2, 0, 2), self.TEXT)
        self.done(self.TEXT, ("move", "main", 1, 1, 1, 1), self.TEXT)

    def test_what_is_refused(self):
        for label, k, target, j in ((0, 2, 1, 1), (0, 2, 2, 0), (0, 3, 1, 0), (0, 2, 0, 0), (0, 2, 0, 4), (0, 2, 0, -1), (0, 2, 7, 0), (0, 0, 0, 1), (1, 0, 1, 1), (1, 1, 0, 3 + 2), (0, 9, 0, 2), (0, -1, 0, 2), (7, 0, 0, 2),
                                    (0, 1, 1, 0), (0, 1, 2, 0), (2, 0, 0, 0), (1, 1, 0, 2)):
            self.refused(self.TEXT, ("move", "main", label, k, target, j))
        self.refused(self.TEXT, ("move", "f", 0, 2, 0, 3))
        for row in ("udiv i32 i32 9, $0 !2", "alloca 4", "load i32 null !2", "call i32 get() !2"):
            self.refused(GET + f"$2 = {row} ret i32 0", ("move", "main", 0, 2, 0, 1), ("move", "main", 0, 2, 0, 2))

    def test_into_a_loop_and_out_of_it(self):
        text = GET + "{}br 1(i32 0) 1($2 i32): {}$4 = add i32 $2, $3 $5 = icmp ult i32 $4, i32 30 condbr $5, 1($4), 2() 2(): ret $4"
        row = "$3 = or i32 $0, i32 1 "
        self.done(text.format(row, ""), ("move", "main", 0, 2, 1, 0), text.format("", row))
        self.done(text.format("", row), ("move", "main", 1, 0, 0, 2), text.format(row, ""))


class RuleStepTest(ValueCase):

    TEXT = GET + "$2 = mul i32 $0, i32 8 $3 = udiv i32 $2, i32 1 !2 $4 = sub i32 $3, $3 call void put($3) !3 ret $4"

    def test_rule(self):
        self.done(self.TEXT, ("rule", "main", 0, 2, 11, ()), self.TEXT.replace("mul i32 $0, i32 8", "shl i32 $0, i32 3"))
        self.done(self.TEXT, ("rule", "main", 0, 3, 2, ()), self.TEXT.replace("$3 = udiv i32 $2, i32 1 !2 ", "").replace("$3", "$2"))
        self.done(self.TEXT, ("rule", "main", 0, 4, 4, ()), self.TEXT.replace("$4 = sub i32 $3, $3 ", "").replace("ret $4", "ret i32 0"))

    def test_what_is_refused(self):
        self.refused(self.TEXT, *[("rule", "main", 0, 2, n, ()) for n in (0, 1, 2, 10, 12, 71, 101, 108, -1, 10 ** 9)], ("rule", "main", 0, 2, 11, (9,)), ("rule", "main", 0, 3, 11, ()), ("rule", "main", 0, 0, 1, ()),
                     ("rule", "main", 0, 5, 1, ()), ("rule", "main", 0, 6, 11, ()), ("rule", "main", 0, -5, 11, ()), ("rule", "main", 7, 2, 11, ()), ("rule", "f", 0, 2, 11, ()))
        self.faulty("0(): ret i32 0 1(): $0 = add i8 $0, i8 0 $1 = add i8 $0, $0 ret i32 0", ("rule", "main", 1, 0, 1, ()))

    def test_ranged_rule(self):
        text = GET + "$2 = and i32 $0, i32 7 $3 = urem i32 $2, i32 8 !2 $4 = ashr i32 $2, i32 1 $5 = add i32 $3, $4 ret $5"
        values = self.tables(text)[1]
        self.done(text, ("ranged_rule", "main", values, 0, 3, 101, ()), text.replace("$3 = urem i32 $2, i32 8 !2 ", "").replace("$3", "$2"))
        self.done(text, ("ranged_rule", "main", values, 0, 4, 105, ()), text.replace("ashr", "lshr"))
        # A table that says less, and tables that claim too much or have another form.
        less = ((), (), ((2, (0, 7, TOP - 7, 0)),))
        self.done(text, ("ranged_rule", "main", less, 0, 4, 105, ()), text.replace("ashr", "lshr"))
        self.refused(text, ("ranged_rule", "main", NOTHING, 0, 4, 105, ()), ("ranged_rule", "main", NOTHING, 0, 3, 101, ()), ("ranged_rule", "main", ((), (), ((2, (0, 6, 0, 0)),)), 0, 4, 105, ()),
                     ("ranged_rule", "main", ((), (), ((0, (0, 7, 0, 0)), (2, (0, 7, 0, 0)))), 0, 3, 101, ()), ("ranged_rule", "main", ((), (), ((2, (0, 7, TOP - 7, 0)), (77, ()))), 0, 4, 105, ()))
        self.refused(text, *[("ranged_rule", "main", values, 0, 4, n, ()) for n in (1, 16, 101, 104, 106, 113, 0, -1)], ("ranged_rule", "main", values, 0, 4, 105, (9,)), ("ranged_rule", "main", values, 0, 6, 105, ()),
                     ("ranged_rule", "main", values, 0, -2, 105, ()), ("ranged_rule", "main", values, 7, 4, 105, ()), ("ranged_rule", "f", values, 0, 4, 105, ()))


class RangesTest(ValueCase):

    TEXT = GET + "$2 = and i32 $0, i32 0 $3 = add i32 $2, i32 4 $4 = and i32 $0, i32 1 condbr $1, 1($3), 1(i32 4) 1($5 i32): $6 = add i32 $5, $4 $7 = alloca 4 $8 = add i32 $6, $3 ret $8"

    def test_ranges(self):
        values = self.tables(self.TEXT)[1]
        self.done(self.TEXT, ("ranges", "main", values, (3,)), self.TEXT.replace("1($3)", "1(i32 4)").replace("$6, $3", "$6, i32 4"))
        self.done(self.TEXT, ("ranges", "main", values, (2, 3, 5)), self.TEXT.replace("add i32 $2", "add i32 i32 0").replace("1($3)", "1(i32 4)").replace("$6, $3", "$6, i32 4").replace("add i32 $5", "add i32 i32 4"))
        one = ((), (7,), ((2, (0, 0, 0, 0)),))
        self.done(self.TEXT, ("ranges", "main", one, (2,)), self.TEXT.replace("add i32 $2", "add i32 i32 0"))

    def test_what_is_refused(self):
        values = self.tables(self.TEXT)[1]
        self.refused(self.TEXT, *[("ranges", "main", values, names) for names in ((), (3, 2), (3, 3), (4,), (0,), (2, 4), (7,), (2, 7), (77,), (2, 77))], ("ranges", "f", values, (3,)))
        self.refused(self.TEXT, ("ranges", "main", NOTHING, (3,)), ("ranges", "main", ((), (7,), ((0, (5, 5, 0, 0)),)), (0,)), ("ranges", "main", ((), (7,), ((3, (4, 4, 0, 0)),)), (3,)))

    def test_dead_blocks(self):
        text = GET + "condbr i1 1, 1(), 2() 1(): ret i32 1 2(): $2 = add i32 $0, i32 1 ret $2"
        self.done(text, ("ranges", "main", (((0, 1),), (), ((2, (7, 7, 0, 0)),)), (2,)), text.replace("ret $2", "ret i32 7"))
        self.refused(text, ("ranges", "main", ((), (), ((2, (7, 7, 0, 0)),)), (2,)))


class DemandStepTest(ValueCase):

    TEXT = GET + "$2 = {} i32 $0, i32 {} $3 = and i32 $2, i32 15 ret $3"

    def step(self, text, word, *rest, values=None, demand=None):
        function, solved = self.tables(text)
        return (word, "main", solved if values is None else values, solve_demand(function, solved) if demand is None else demand) + rest

    def test_demanded_of_instructions_without_result(self):
        text = "0(): $0 = alloca 4 store i32 i32 7, $0 !1 call void put(i32 65) !2 kill $0 $1 = load i32 $0 !3 ret i32 0"
        self.refused(text, *[("demanded", "main", ((), (), ()), demand, 0, k) for k in range(6) for demand in ((), ((0, 1), (1, 0)))])

    def test_demanded(self):
        for op, c, fits in (("and", 15, True), ("and", 255, True), ("and", 14, False), ("and", 240, False), ("or", 16, True), ("or", 240, True), ("or", 1, False), ("or", 17, False), ("xor", 32, True), ("xor", 8, False),
                            ("add", 16, False), ("shl", 0, False)):
            text = self.TEXT.format(op, c)
            step = self.step(text, "demanded", 0, 2)
            if fits:
                # The instruction itself stays.
                self.done(text, step, text.replace("and i32 $2", "and i32 $0"))
            else:
                self.refused(text, step)
        text = self.TEXT.format("and", 15)
        self.refused(text, *[self.step(text, "demanded", *place) for place in ((0, 0), (0, 1), (0, 4), (0, -2), (7, 2))], ("demanded", "f") + self.step(text, "demanded", 0, 2)[2:])
        # The constant stands behind.
        text = GET + "$2 = and i32 i32 15, $0 $3 = and i32 $2, i32 15 ret $3"
        self.refused(text, self.step(text, "demanded", 0, 2))
        text = GET + "$2 = and i32 $0, $0 $3 = and i32 $2, i32 15 ret $3"
        self.refused(text, self.step(text, "demanded", 0, 2))

    def test_names_without_an_entry_demand_everything(self):
        text = self.TEXT.format("and", 15)
        self.refused(text, self.step(text, "demanded", 0, 2, demand=()))
        self.done(text, self.step(text, "demanded", 0, 2, demand=((2, 15),)), text.replace("and i32 $2", "and i32 $0"))
        text = self.TEXT.format("and", TOP)
        self.done(text, self.step(text, "demanded", 0, 2, demand=()), text.replace("and i32 $2", "and i32 $0"))

    def test_tables_that_do_not_hold(self):
        text = self.TEXT.format("and", 7)
        self.refused(text, self.step(text, "demanded", 0, 2, demand=((2, 7),)), self.step(text, "demanded", 0, 2, demand=((2, 7), (3, 7))))
        text = self.TEXT.format("and", 15)
        self.refused(text, self.step(text, "demanded", 0, 2, values=((), (), ((0, (0, 3, 0, 0)),))), self.step(text, "demanded", 0, 2, demand=((2, 15), (77, 0))))

    def test_undemanded(self):
        text = GET + "$2 = add i32 $0, i32 9 $3 = and i32 $2, i32 0 $4 = alloca 4 $5 = shl i32 $2, i32 31 $6 = and i32 $5, i32 1 condbr $1, 1($6), 1($3) 1($7 i32): $8 = add i32 $7, $0 $9 = and i32 $8, i32 0 ret $3"
        step = self.step(text, "undemanded", (2,))
        demand = dict(step[3])
        self.assertEqual([demand[k] for k in (2, 3, 4, 5, 6, 7, 8, 9)], [0, TOP, 0, 0, 0, 0, 0, 0])
        self.done(text, step, text.replace("$2, i32 0", "i32 0, i32 0").replace("$2, i32 31", "i32 0, i32 31"))
        self.done(text, step[:4] + ((2, 5, 6, 7, 8),), text.replace("$2, i32 0", "i32 0, i32 0").replace("$2, i32 31", "i32 0, i32 31").replace("and i32 $5", "and i32 i32 0").replace("1($6)", "1(i32 0)")
                  .replace("add i32 $7", "add i32 i32 0").replace("and i32 $8", "and i32 i32 0"))
        self.refused(text, *[step[:4] + (names,) for names in ((), (5, 2), (2, 2), (3,), (0,), (2, 3), (4,), (2, 4), (77,), (1,))], ("undemanded", "f") + step[2:])
        self.refused(text, step[:3] + ((), (2,)), step[:3] + (((2, 0), (3, 0)), (3,)), step[:2] + (((), (), ((0, (0, 0, 0, 0)),)), step[3], (2,)))

    def test_parameters_of_the_entry_stay(self):
        text = "internal f i32 { 0($0 i32): $1 = add i32 $0, i32 1 ret i32 3 } export main i32 { 0(): $0 = call i32 f(i32 1) !1 ret $0 }"
        self.refused(text, ("undemanded", "f", NOTHING, ((0, 0), (1, 0)), (0,)))
        self.done(text, ("undemanded", "f", NOTHING, ((0, 0), (1, 0)), (1,)), text)


class EqualTest(ValueCase):

    TEXT = (GET + "$2 = add i32 $0, i32 7 $3 = add i32 $0, i32 7 condbr $1, 1($2, $3), 2() 1($4 i32, $5 i32): $6 = add i32 $0, i32 7 $7 = mul i32 $4, $6 $8 = mul i32 $5, $2 $9 = sub i32 $7, $8 $10 = add i32 $4, $9 ret $10 "
            "2(): $11 = add i32 $0, i32 7 ret $11")

    def test_equal(self):
        table = solve_equations(self.tables(self.TEXT)[0])
        self.assertEqual(table, ((2, 3, 6, 11), (4, 5), (7, 8)))
        self.done(self.TEXT, ("equal", "main", table, ((3, 2),)), self.TEXT.replace("1($2, $3)", "1($2, $2)"))
        self.done(self.TEXT, ("equal", "main", table, ((6, 2), (8, 7), (11, 3))), self.TEXT.replace("$4, $6", "$4, $2").replace("$7, $8", "$7, $7").replace("ret $11", "ret $3"))
        # Params of one block, in both orders.
        self.done(self.TEXT, ("equal", "main", table, ((5, 4),)), self.TEXT.replace("mul i32 $5", "mul i32 $4"))
        self.done(self.TEXT, ("equal", "main", table, ((4, 5),)), self.TEXT.replace("mul i32 $4", "mul i32 $5").replace("add i32 $4", "add i32 $5"))
        self.done(self.TEXT, ("equal", "main", ((2, 3),), ((3, 2),)), self.TEXT.replace("1($2, $3)", "1($2, $2)"))
        self.done(self.TEXT, ("equal", "main", table, ()), self.TEXT)
        # A pair of a param and itself keeps the words, and changes nothing.
        self.done(self.TEXT, ("equal", "main", table, ((4, 4),)), self.TEXT)

    def test_what_is_refused(self):
        table = solve_equations(self.tables(self.TEXT)[0])
        self.refused(self.TEXT, *[("equal", "main", table, pairs) for pairs in (((2, 3),), ((3, 3),), ((2, 6),), ((6, 11),), ((11, 6),), ((7, 8),), ((9, 7),), ((3, 4),), ((0, 2),), ((3, 0),), ((3, 77),), ((77, 3),),
                                                                               ((8, 7), (3, 2)), ((3, 2), (3, 2)), ((3, 2), (6, 3)), ((4, 5), (5, 4)))], ("equal", "f", table, ((3, 2),)))
        self.refused(self.TEXT, ("equal", "main", (), ((3, 2),)), ("equal", "main", ((2, 3), (7, 8)), ((3, 2),)), ("equal", "main", ((2, 9),), ((9, 2),)), ("equal", "main", ((2, 77),), ()))

    def test_divisions(self):
        text = "0(): $0 = call i32 get() !1 $1 = udiv i32 i32 9, $0 !2 $2 = udiv i32 i32 9, $0 !3 $3 = add i32 $1, $2 ret $3"
        self.done(text, ("equal", "main", ((1, 2),), ((2, 1),)), text.replace("$1, $2", "$1, $1"))


class LinearStepTest(ValueCase):

    TEXT = ("0(): $0 = call i32 get() !1 $1 = add i32 $0, i32 3 $2 = shl i32 $1, i32 1 $3 = add i32 $0, $0 $4 = add i32 $3, i32 6 $5 = trunc i8 $0 $6 = sub i32 $4, $2 $7 = select i32 i1 1, $4, $0 "
            "$8 = zext i32 $5 $9 = udiv i32 $0, i32 1 !2 $10 = add i32 $4, $6 call void put($10) !3 ret $4")

    def step(self, text, label, k, operand, of="main", values=None, table=None):
        function, solved = self.tables(text)
        values = solved if values is None else values
        return ("linear", of, values, solve_linear(function, solved) if table is None else table, label, k, operand)

    def test_linear(self):
        text = self.TEXT
        self.done(text, self.step(text, 0, 4, name(2)), text.replace("$4 = add i32 $3, i32 6 ", "").replace("$4", "$2"))
        self.done(text, self.step(text, 0, 6, number(0)), text.replace("$6 = sub i32 $4, $2 ", "").replace("$6", "i32 0"))
        self.done(text, self.step(text, 0, 10, name(2)), text.replace("$10 = add i32 $4, $6 ", "").replace("$10", "$2"))
        self.done(text, self.step(text, 0, 4, name(2), values=NOTHING, table=()), text.replace("$4 = add i32 $3, i32 6 ", "").replace("$4", "$2"))

    def test_what_is_refused(self):
        text = self.TEXT
        self.refused(text, *[self.step(text, 0, k, operand) for k, operand in ((4, name(0)), (4, name(4)), (4, name(10)), (4, name(5)), (4, name(77)), (4, number(6)), (4, ("null",)), (2, name(4)), (6, number(0, "i8")), (6, number(1)),
                                                                               (7, name(4)), (8, name(0)), (9, name(0)), (0, name(0)), (11, name(0)), (12, name(2)), (-1, name(2)))])
        self.refused(text, self.step(text, 7, 4, name(2)), self.step(text, 0, 4, name(2), of="f"), self.step(text, 0, 4, name(2), values=((), (), ((0, (0, 0, 0, 0)),))), self.step(text, 0, 4, name(2), table=((4, 3, 1, 0),)))
        self.refused("0(): $0 = alloca 4 $1 = gep $0, 0 $2 = select ptr i1 1, $0, $1 ret i32 0", *[("linear", "main", ((), (0,), ()), (), 0, k, name(0)) for k in (1, 2)])

    def test_params_of_a_table(self):
        text = "0(): br 1(i32 0, i32 3) 1($0 i32, $1 i32): $2 = add i32 $0, i32 1 $3 = add i32 $1, i32 4 $4 = shl i32 $0, i32 2 $5 = add i32 $4, i32 3 call void put($5) !1 $6 = icmp ult i32 $2, i32 4 condbr $6, 1($2, $3), 2() 2(): ret $5"
        due = text.replace("$5 = add i32 $4, i32 3 ", "").replace("$5", "$1")
        self.done(text, self.step(text, 1, 3, name(1)), due)
        self.done(text, self.step(text, 1, 3, name(1), values=NOTHING, table=((1, 0, 4, 3),)), due)
        self.refused(text, self.step(text, 1, 3, name(1), table=()), self.step(text, 1, 3, name(1), table=((1, 0, 4, 2),)), self.step(text, 1, 3, name(1), table=((1, 0, 3, 3),)))

    def test_blocks_that_are_not_reached(self):
        # There each name is its own form.
        self.refused("0(): ret i32 0 1(): $0 = add i32 i32 1, i32 2 ret $0", ("linear", "main", NOTHING, (), 1, 0, number(3)))
        self.faulty("0(): ret i32 0 1(): $0 = add i32 i32 1, i32 2 ret $0", ("linear", "main", NOTHING, (), 1, 0, name(0)))
        for row in ("load i32 null !1", "udiv i32 i32 1, i32 1 !1", "gep null, 0", "select ptr i1 1, null, null"):
            self.refused(f"0(): ret i32 0 1(): $0 = {row} ret i32 0", ("linear", "main", NOTHING, (), 1, 0, name(0)))


class BoundsTest(unittest.TestCase):

    def test_greatest_function(self):
        function = big_function()
        module = ((), (function,))
        values = solve_values(module, function)
        row = (20000, "add", "i8", (name(1), name(2)), (), -1)
        self.assertIsNotNone(shallow(lambda: insert(module, ("insert", "main", 1999, 10, row))))
        self.assertIsNotNone(shallow(lambda: drop_names(module, ("drop_names", "main", tuple(range(20000))))))
        self.assertIsNone(shallow(lambda: same(module, ("same", "main", 1999, 0, 0, 0))))
        self.assertIsNone(shallow(lambda: prefer(module, ("prefer", "main", 4, 5))))
        self.assertIsNotNone(shallow(lambda: move(module, ("move", "main", 1999, 9, 1999, 9))))
        self.assertIsNotNone(shallow(lambda: ranges(module, ("ranges", "main", values, tuple(range(20000))))))
        demand = solve_demand(function, values)
        none = tuple(n for n, mask in demand if mask == 0)
        self.assertIsNotNone(shallow(lambda: undemanded(module, ("undemanded", "main", values, demand, none))))
        table = solve_equations(function)
        pairs = tuple((x, row[0]) for row in table for x in row[1:])
        self.assertIsNotNone(shallow(lambda: equal(module, ("equal", "main", table, tuple(sorted(pairs))))))
        self.assertIsNone(shallow(lambda: linear(module, ("linear", "main", values, (), 1999, 0, name(0)))))

    def test_one_great_class(self):
        rows = ((0, "call", "i32", (), ("get",), 1),) + tuple((k, "add", "i32", (name(0), number(1)), (), -1) for k in range(1, 19000))
        module = parse_module("export main i32 { 0(): ret i32 0 }")
        module = ((), (module[1][0][:3] + (((0, (), rows, ("ret", number(0))),),),))
        table = (tuple(range(1, 19000)),)
        self.assertIsNotNone(shallow(lambda: equal(module, ("equal", "main", table, tuple((k, 1) for k in range(2, 19000))))))


if __name__ == "__main__":
    unittest.main()
