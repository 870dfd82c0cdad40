"""Promises 7.11 (copy, copy_region) and 7.12 (add_param, same_param, use_params)."""

import unittest

from burnish.paramsteps import add_param, copy, copy_region, same_param, use_params
from stepping import StepCase
from test_bounds import big_function, shallow

GET = "0(): $0 = call i32 get() !1 $1 = icmp ult i32 $0, i32 5 "


class CopyTest(StepCase):

    TEXT = GET + "condbr $1, 1($0, i32 3), 2() 2(): br 1(i32 9, i32 6) 1($2 i32, $3 i32): $4 = add i32 $2, $3 call void put($4) !7 $5 = icmp ult i32 $4, i32 20 condbr $5, 1($4, $0), 3() 3(): ret $0"
    COPY = " 9($10 i32, $11 i32): $12 = add i32 $10, $11 call void put($12) !7 $13 = icmp ult i32 $12, i32 20 condbr $13, 1($12, $0), 3()"

    def test_copy(self):
        names = (10, 11, 12, 13)
        self.done(self.TEXT, ("copy", "main", 1, 9, names, ((0, 0),)), self.TEXT.replace("$1, 1($0, i32 3)", "$1, 9($0, i32 3)") + self.COPY)
        self.done(self.TEXT, ("copy", "main", 1, 9, names, ((0, 0), (2, 0))), self.TEXT.replace("$1, 1($0, i32 3)", "$1, 9($0, i32 3)").replace("br 1(i32 9", "br 9(i32 9") + self.COPY)
        # An edge of the block to itself goes to the block in the copy, too.
        self.done(self.TEXT, ("copy", "main", 1, 9, names, ((1, 0),)), self.TEXT.replace("$5, 1($4, $0)", "$5, 9($4, $0)") + self.COPY)
        self.done(self.TEXT, ("copy", "main", 2, 9, (), ((0, 1),)), self.TEXT.replace("2() 2():", "9() 2():") + " 9(): br 1(i32 9, i32 6)")

    def test_copies_keep_places_and_what_traps(self):
        text = GET + "condbr $1, 1($0), 1(i32 0) 1($2 i32): $3 = udiv i32 i32 9, $2 !44 store i32 $3, null !5 ret $3"
        self.done(text, ("copy", "main", 1, 5, (7, 8), ((0, 1),)), text.replace("1(i32 0)", "5(i32 0)") + " 5($7 i32): $8 = udiv i32 i32 9, $7 !44 store i32 $8, null !5 ret $8")

    def test_copies_that_are_refused(self):
        good = ("copy", "main", 1, 9, (10, 11, 12, 13), ((0, 0),))
        self.refused(self.TEXT, *[good[:5] + (edges,) for edges in ((), ((0, 1),), ((2, 0), (0, 0)), ((0, 0), (0, 0)), ((0, 2),), ((5, 0),), ((3, 0),), ((0, -2),))])
        self.refused(self.TEXT, *[good[:4] + (names,) + good[5:] for names in ((10, 11, 12), (10, 11, 12, 13, 14), (10, 11, 12, 12), (10, 11, 12, 4), (10, 11, 12, 10 ** 9))])
        self.refused(self.TEXT, *[good[:3] + (label,) + good[4:] for label in (0, 1, 3, -1, 10 ** 9)], ("copy", "main", 8) + good[3:], ("copy", "f") + good[2:])
        self.refused("0(): ret i32 0", ("copy", "main", 0, 9, (), ()))
        # The entry, and blocks that are not closed.
        self.refused(self.TEXT, ("copy", "main", 0, 9, (10, 11), ()))
        self.refused(self.TEXT.replace("ret $0", "ret $4"), good)
        self.refused(self.TEXT.replace("ret $0", "ret $2"), good)


class RegionTest(StepCase):

    TEXT = (GET + "condbr $1, 1(i32 0), 5() 5(): br 1(i32 3) 1($2 i32): $3 = icmp ult i32 $2, i32 9 condbr $3, 2(), 4($0) "
            "2(): $4 = add i32 $2, i32 2 call void put($4) !2 condbr $1, 1($4), 3() 3(): $5 = add i32 $4, i32 1 br 1($5) 4($6 i32): ret $6")
    COPY = (" 11($12 i32): $13 = icmp ult i32 $12, i32 9 condbr $13, 21(), 4($0) 21(): $14 = add i32 $12, i32 2 call void put($14) !2 condbr $1, 11($14), 31() "
            "31(): $15 = add i32 $14, i32 1 br 11($15)")
    GOOD = ("copy_region", "main", 1, (1, 2, 3), (11, 21, 31), (12, 13, 14, 15), ((0, 0),))

    def test_copy_region(self):
        self.done(self.TEXT, self.GOOD, self.TEXT.replace("$1, 1(i32 0)", "$1, 11(i32 0)") + self.COPY)
        self.done(self.TEXT, self.GOOD[:6] + (((0, 0), (5, 0)),), self.TEXT.replace("1(i32 0)", "11(i32 0)").replace("1(i32 3)", "11(i32 3)") + self.COPY)
        self.done(self.TEXT, ("copy_region", "main", 5, (5,), (6,), (), ((0, 1),)), self.TEXT.replace("5() 5():", "6() 5():") + " 6(): br 1(i32 3)")
        # The header need not be the first one, and a copy of a region without a loop.
        text = GET + "br 7() 7(): br 2() 2(): ret $0"
        self.done(text, ("copy_region", "main", 7, (2, 7), (8, 9), (), ((0, 0),)), text.replace("br 7()", "br 9()") + " 8(): ret $0 9(): br 8()")

    def test_regions_that_are_refused(self):
        good = self.GOOD
        self.refused(self.TEXT, *[good[:3] + told + good[5:] for told in (((1, 2), (11, 21)), ((2, 1, 3), (21, 11, 31)), ((1, 1, 2, 3), (11, 12, 21, 31)), ((1, 2, 3), (11, 21)), ((1, 2, 3, 8), (11, 21, 31, 81)),
                                                                            ((1, 2, 3, 5), (11, 21, 31, 51)), ((2, 3), (21, 31)), ((), ()), ((1, 2, 3), (11, 21, 21)), ((1, 2, 3), (11, 21, 5)),
                                                                            ((1, 2, 3), (11, 21, -1)))])
        self.refused(self.TEXT, *[good[:6] + (edges,) for edges in ((), ((0, 1),), ((5, 0), (0, 0)), ((2, 0),), ((0, 0), (2, 0)), ((3, 0),), ((9, 0),), ((0, 0), (0, 0)))])
        self.refused(self.TEXT, *[good[:5] + (names,) + good[6:] for names in ((12, 13, 14), (12, 13, 14, 15, 16), (12, 13, 14, 14), (12, 13, 14, 0))])
        self.refused(self.TEXT, ("copy_region", "main", 2) + good[3:], ("copy_region", "main", 9) + good[3:], ("copy_region", "f") + good[2:])
        # Another edge leads into the region, and a name of it is used outside.
        self.refused(self.TEXT.replace("5(): br 1(i32 3)", "5(): br 4(i32 3)"), good[:3] + ((1, 2, 3, 4), (11, 21, 31, 41), (12, 13, 14, 15, 16), ((0, 0),)))
        self.refused(self.TEXT.replace("4($0)", "4($2)").replace("ret $6", "ret $2"), good)
        self.refused(self.TEXT.replace("ret $6", "ret $3").replace("main i32", "main i32").replace("ret $3", "$7 = zext i32 $3 ret $7"), good)
        # Without the header; with one that does not exist; with the entry, which nothing dominates; with an edge that comes back from outside.
        self.refused(self.TEXT, ("copy_region", "main", 1, (), (), (), ((0, 0),)), ("copy_region", "main", 9, (9,), (19,), (), ((0, 0),)))
        self.refused(GET + "condbr $1, 1(), 2() 1(): ret i32 1 2(): br 1()", ("copy_region", "main", 1, (0, 1), (7, 8), (8, 9), ((2, 0),)))
        self.refused(GET + "br 1() 1(): br 5() 5(): br 2() 2(): ret $0", ("copy_region", "main", 1, (1, 2), (7, 8), (), ((0, 0),)))
        # The entry is no header.
        self.refused("0(): br 1() 1(): ret i32 0", ("copy_region", "main", 0, (0, 1), (7, 8), (), ()))

    def test_header_that_does_not_dominate(self):
        text = GET + "condbr $1, 1(), 2() 1(): br 3() 2(): br 3() 3(): ret $0"
        self.refused(text, ("copy_region", "main", 1, (1, 3), (7, 8), (), ((0, 0),)))


class AddParamTest(StepCase):

    TEXT = GET + "condbr $1, 1(i32 4), 2() 2(): $2 = add i32 $0, i32 1 br 1($2) 1($3 i32): $4 = add i32 $3, i32 1 $5 = icmp ult i32 $4, i32 20 condbr $5, 1($4), 3() 3(): ret $3"

    def test_add_param(self):
        due = GET + "condbr $1, 1(i32 4, i8 9), 2() 2(): $2 = add i32 $0, i32 1 br 1($2, i8 8) 1($3 i32, $9 i8): $4 = add i32 $3, i32 1 $5 = icmp ult i32 $4, i32 20 condbr $5, 1($4, i8 7), 3() 3(): ret $3"
        # The edges stand in ascending order: of 0, of 1, of 2.
        self.done(self.TEXT, ("add_param", "main", 1, 9, "i8", (("int", "i8", 9), ("int", "i8", 7), ("int", "i8", 8))), due)
        due = due.replace("i8 9", "$0").replace("i8 8", "$2").replace("i8 7", "$5").replace("$9 i8", "$9 i32").replace("$5), 3", "$4), 3")
        self.done(self.TEXT, ("add_param", "main", 1, 9, "i32", (("name", 0), ("name", 4), ("name", 2))), due)
        self.done("0(): br 1() 1(): ret i32 0 2(): ret i32 1", ("add_param", "main", 2, 0, "ptr", ()), "0(): br 1() 1(): ret i32 0 2($0 ptr): ret i32 1")
        self.done("0(): br 1() 1(): ret i32 0", ("add_param", "main", 1, 7, "ptr", (("null",),)), "0(): br 1(null) 1($7 ptr): ret i32 0")
        self.done("0(): switch i8 1, 1: 1(), 2: 2(), else 1() 1(): ret i32 0 2(): ret i32 1", ("add_param", "main", 1, 7, "i8", (("int", "i8", 1), ("int", "i8", 2))),
                  "0(): switch i8 1, 1: 1(i8 1), 2: 2(), else 1(i8 2) 1($7 i8): ret i32 0 2(): ret i32 1")

    def test_operands_at_the_ends_of_long_blocks(self):
        text = GET + "$2 = add i32 $0, i32 1 $3 = add i32 $2, i32 1 $4 = add i32 $3, i32 1 br 1({}) 1({}): ret $0"
        self.done(text.format("", ""), ("add_param", "main", 1, 9, "i32", (("name", 4),)), text.format("$4", "$9 i32"))

    def test_params_that_are_refused(self):
        operands = (("name", 0), ("name", 4), ("name", 2))
        good = ("add_param", "main", 1, 9, "i32", operands)
        self.refused(self.TEXT, *[good[:5] + (told,) for told in (operands[:2], operands + operands[:1], (), (("name", 0), ("name", 5), ("name", 2)), (("name", 0), ("int", "i8", 4), ("name", 2)),
                                                                   (("name", 2), ("name", 4), ("name", 2)), (("name", 0), ("name", 2), ("name", 2)), (("name", 0), ("name", 4), ("name", 4)),
                                                                   (("name", 77), ("name", 4), ("name", 2)), (("name", 0), ("name", 9), ("name", 2)))])
        self.refused(self.TEXT, *[good[:3] + (name,) + good[4:] for name in (0, 3, 5, 10 ** 9)], good[:4] + ("i8",) + good[5:], good[:4] + ("ptr",) + good[5:])
        self.refused(self.TEXT, ("add_param", "main", 0, 9, "i32", ()), ("add_param", "main", 7, 9, "i32", ()), ("add_param", "f") + good[2:])
        self.refused("0(): br 1() 1(): ret i32 0", ("add_param", "main", 1, 7, "ptr", (("global", "none"),)))


class SameParamTest(StepCase):

    def test_same_param(self):
        text = GET + "condbr $1, 1(i32 4, $0), 2() 2(): br 1(i32 5, $0) 1($2 i32, $3 i32): $4 = add i32 $2, $3 condbr $1, 1($4, $3), 3() 3(): $5 = add i32 $3, i32 1 ret $5"
        due = GET + "condbr $1, 1(i32 4), 2() 2(): br 1(i32 5) 1($2 i32): $4 = add i32 $2, $0 condbr $1, 1($4), 3() 3(): $5 = add i32 $0, i32 1 ret $5"
        self.done(text, ("same_param", "main", 1, 1, ("name", 0)), due)
        self.refused(text, ("same_param", "main", 1, 0, ("int", "i32", 4)), ("same_param", "main", 1, 1, ("name", 3)), ("same_param", "main", 1, 1, ("name", 1)), ("same_param", "main", 1, 2, ("name", 0)),
                     ("same_param", "main", 1, -1, ("name", 0)), ("same_param", "main", 9, 1, ("name", 0)), ("same_param", "main", 2, 0, ("name", 0)), ("same_param", "f", 1, 1, ("name", 0)))
        self.refused(text.replace("br 1(i32 5, $0)", "br 1(i32 5, i32 1)"), ("same_param", "main", 1, 1, ("name", 0)), ("same_param", "main", 1, 1, ("int", "i32", 1)))

    def test_constants(self):
        for operand, shown, kind in ((("int", "i8", 7), "i8 7", "i8"), (("null",), "null", "ptr"), (("global", "g"), "@g", "ptr")):
            text = "global g 1 export main i32 {{ 0(): br 1({0}i16 1) 1({1}$3 i16): store i16 $3, null !2 br 1({2}i16 2) }}"
            self.done(text.format(shown + ", ", f"$2 {kind}, ", "$2, "), ("same_param", "main", 1, 0, operand), text.format("", "", ""))

    def test_what_does_not_hold(self):
        # Only itself is passed; the operand is defined in the block, or does not dominate it.
        self.refused("0(): ret i32 0 1($0 i32): br 1($0)", ("same_param", "main", 1, 0, ("int", "i32", 1)), ("same_param", "main", 1, 0, ("name", 0)))
        self.refused("0(): ret i32 0 1($0 i32): ret $0", ("same_param", "main", 1, 0, ("int", "i32", 1)))
        self.refused("0(): ret i32 0 1($0 i32, $1 i32): br 1($1, i32 1)", ("same_param", "main", 1, 0, ("name", 1)))
        self.refused(GET + "condbr $1, 1(), 2() 1(): $2 = add i32 $0, i32 1 br 3($2, $2) 2(): $3 = add i32 $0, i32 1 br 3($3, $3) 3($4 i32, $5 i32): ret $4",
                     ("same_param", "main", 3, 0, ("name", 2)), ("same_param", "main", 3, 0, ("name", 5)))
        self.refused("internal f i32 { 0($0 i32): ret $0 } export main i32 { 0(): $0 = call i32 f(i32 1) !1 ret $0 }", ("same_param", "f", 0, 0, ("int", "i32", 1)))

    def test_blocks_that_are_not_reached(self):
        self.done("0(): br 2() 1($0 i32): call void put($0) !1 br 1($1) 2(): $1 = call i32 get() !2 ret $1", ("same_param", "main", 1, 0, ("name", 1)),
                  "0(): br 2() 1(): call void put($1) !1 br 1() 2(): $1 = call i32 get() !2 ret $1")


class UseParamsTest(StepCase):

    TEXT = GET + "br 1($0, i32 9) 1($2 i32, $3 i32): $4 = add i32 $0, $3 condbr $1, 2($2, $0), 1($2, $0) 2($5 i32, $6 i32): $7 = sub i32 $0, $6 call void put($7) !2 $8 = icmp ult i32 $0, i32 3 condbr $8, 2($0, $0), 3() 3(): ret $0"

    def test_use_params(self):
        self.done(self.TEXT, ("use_params", "main", ((1, 0),)), self.TEXT.replace("$4 = add i32 $0", "$4 = add i32 $2").replace("2($2, $0), 1($2, $0)", "2($2, $2), 1($2, $2)"))
        self.done(self.TEXT, ("use_params", "main", ((1, 0), (2, 0))),
                  self.TEXT.replace("$4 = add i32 $0", "$4 = add i32 $2").replace("2($2, $0), 1($2, $0)", "2($2, $2), 1($2, $2)").replace("$7 = sub i32 $0", "$7 = sub i32 $5").replace("icmp ult i32 $0, i32 3", "icmp ult i32 $5, i32 3").replace("2($0, $0)", "2($5, $5)"))
        self.done(self.TEXT, ("use_params", "main", ((2, 1),)),
                  self.TEXT.replace("$7 = sub i32 $0", "$7 = sub i32 $6").replace("icmp ult i32 $0, i32 3", "icmp ult i32 $6, i32 3").replace("2($0, $0)", "2($6, $6)"))

    def test_what_is_refused(self):
        good = ("use_params", "main", ((1, 0), (2, 0)))
        self.refused(self.TEXT, *[good[:2] + (pairs,) for pairs in ((), ((2, 0), (1, 0)), ((1, 0), (1, 0)), ((1, 0), (1, 1)), ((1, 1),), ((2, 0),), ((1, 2),), ((1, -1),), ((1, 0), (9, 0)), ((3, 0),), ((0, 0),))], ("use_params", "f") + good[2:])
        # What is passed is no name, or two names, or only the params themselves.
        self.refused("0(): br 1(i32 1) 1($0 i32): br 1($0)", ("use_params", "main", ((1, 0),)))
        self.refused("0(): ret i32 0 1($0 i32): br 1($0)", ("use_params", "main", ((1, 0),)))
        self.refused("0(): ret i32 0 1($0 i32): ret $0", ("use_params", "main", ((1, 0),)))
        self.refused(GET + "$2 = add i32 $0, i32 1 condbr $1, 1($0), 1($2) 1($3 i32): ret $0", ("use_params", "main", ((1, 0),)))
        self.refused(GET + "condbr $1, 1($0), 1(i32 0) 1($3 i32): ret $0", ("use_params", "main", ((1, 0),)))
        self.refused(GET + "br 1($0, $0) 1($2 i32, $3 i32): ret $0", ("use_params", "main", ((1, 0), (1, 1))))
        # The name does not strictly dominate one of the blocks.
        self.refused("0(): ret i32 0 1($0 i32): $1 = add i32 $0, i32 1 br 1($1)", ("use_params", "main", ((1, 0),)))
        self.refused("0(): ret i32 0 1($0 i32): $1 = add i32 $0, i32 1 condbr i1 1, 1($1), 2($1) 2($2 i32): ret $1", ("use_params", "main", ((1, 0), (2, 0))))
        self.refused("0(): br 1(i32 1) 1($0 i32): $1 = add i32 $0, i32 1 br 2($1) 2($2 i32): br 1($1)", ("use_params", "main", ((1, 0),)))
        self.refused("0(): br 2() 2(): $1 = call i32 get() !1 br 3($1) 3($2 i32): br 2() 4($3 i32): br 4($1)".replace("br 2() 4", "br 5() 5(): ret $2 4"), ("use_params", "main", ((3, 0), (6, 0))))

    def test_blocks_that_are_not_reached(self):
        self.done("0(): $0 = call i32 get() !1 ret $0 1($1 i32): call void put($0) !2 br 1($0)", ("use_params", "main", ((1, 0),)), "0(): $0 = call i32 get() !1 ret $0 1($1 i32): call void put($1) !2 br 1($1)")
        self.faulty("0(): $0 = call i32 get() !1 br 2($0) 1($1 i8): call void put($0) !2 br 2($0) 2($2 i32): ret $0", ("use_params", "main", ((1, 0), (2, 0))))


class BoundsTest(unittest.TestCase):

    def test_greatest_function(self):
        function = big_function()
        module = ((), (function,))
        names = tuple(range(20000, 20010))
        body = function[3][1999]
        self.assertEqual(len(body[2]), 10)
        self.assertEqual(len(shallow(lambda: copy(module, ("copy", "main", 1999, 5000, names, ((1998, 0),))))[1][0][3]), 2001)
        region = tuple(range(1, 2000))
        made = tuple(range(20000, 20000 + 19990))
        self.assertEqual(len(shallow(lambda: copy_region(module, ("copy_region", "main", 1, region, tuple(range(5000, 6999)), made, ((0, 0),))))[1][0][3]), 3999)
        operands = (("name", 0),) * 3
        changed = shallow(lambda: add_param(module, ("add_param", "main", 7, 20000, "i8", operands[:2])))
        self.assertEqual(changed[1][0][3][7][1], ((20000, "i8"),))
        used = shallow(lambda: use_params(changed, ("use_params", "main", ((7, 0),))))
        self.assertIsNotNone(used)
        self.assertTrue(shallow(lambda: same_param(changed, ("same_param", "main", 7, 0, ("name", 0)))) == module)


if __name__ == "__main__":
    unittest.main()
