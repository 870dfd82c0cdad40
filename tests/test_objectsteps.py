"""Promises 7.25 and 7.26: allocas and globals."""

import unittest

from burnish.objectsteps import constant_load, drop_global, drop_kills, fix_global, split_alloca
from stepping import StepCase
from test_bounds import big_function, shallow


class SplitTest(StepCase):

    head = "global g 1 2 3 4"
    TEXT = ("0(): $9 = call i32 get() !9 $0 = alloca 16 $1 = gep $0, 8 $2 = gep $0, 4 store i32 $9, $0 !1 store i64 i64 77, $1 !2 store i32 i32 3, $2 !3 br 1() "
            "1(): $3 = load i32 $0 !4 $4 = load i64 $1 !5 $5 = load i16 $2 !6 $6 = trunc i32 $4 $7 = add i32 $3, $6 ret $7")

    def test_split_alloca(self):
        self.done(self.TEXT, ("split_alloca", "main", 0, 1, (4, 4, 8), (20, 22, 21)),
                  "0(): $9 = call i32 get() !9 $20 = alloca 4 $22 = alloca 4 $21 = alloca 8 $1 = gep $21, 0 $2 = gep $22, 0 store i32 $9, $20 !1 store i64 i64 77, $1 !2 store i32 i32 3, $2 !3 br 1() "
                  "1(): $3 = load i32 $20 !4 $4 = load i64 $1 !5 $5 = load i16 $2 !6 $6 = trunc i32 $4 $7 = add i32 $3, $6 ret $7")
        self.done(self.TEXT, ("split_alloca", "main", 0, 1, (8, 8), (20, 21)), self.TEXT.replace("$0 = alloca 16", "$20 = alloca 8 $21 = alloca 8").replace("gep $0, 8", "gep $21, 0").replace("$0", "$20"))
        self.done(self.TEXT, ("split_alloca", "main", 0, 1, (4, 12), (20, 21)), self.TEXT.replace("$0 = alloca 16", "$20 = alloca 4 $21 = alloca 12").replace("gep $0, 8", "gep $21, 4").replace("gep $0, 4", "gep $21, 0").replace("$0", "$20"))

    def test_what_is_refused(self):
        good = ("split_alloca", "main", 0, 1, (8, 8), (20, 21))
        self.refused(self.TEXT, *[good[:4] + told for told in (((16,), (20,)), ((8, 8, 0), (20, 21, 22)), ((8, 9), (20, 21)), ((8, 7), (20, 21)), ((24, -8), (20, 21)), ((), ()), ((8, 8), (20,)), ((8, 8), (20, 21, 22)),
                                                               ((8, 8), (20, 20)), ((8, 8), (20, 9)), ((8, 8), (20, 0)), ((8, 8), (20, 10 ** 9)), ((2, 14), (20, 21)), ((12, 4), (20, 21)), ((4, 1, 11), (20, 21, 22)),
                                                               ((4, 2, 10), (20, 21, 22)))])
        self.refused(self.TEXT, *[("split_alloca", "main", label, k) + good[4:] for label, k in ((0, 0), (0, 2), (0, 7), (0, -6), (1, 0), (7, 1))], ("split_alloca", "f") + good[2:])

    def test_uses(self):
        text = "0(): $0 = alloca 16 $1 = gep $0, 8 $2 = load i32 $1 !1 {} ret $2"
        step = ("split_alloca", "main", 0, 0, (8, 8), (20, 21))
        for row in ("kill $0", "store ptr $0, @g !2", "store ptr $0, $0 !2", "$3 = gep $0, 0, i64 0 * 1", "$3 = gep $1, 0", "store ptr $1, $0 !2", "kill $1", "$3 = select ptr i1 1, $0, $0", "$3 = icmp eq ptr $0, null",
                    "$3 = icmp eq ptr $1, null", "call void free($1) !2", "$3 = gep $0, 0 $4 = gep $3, 0", "br 1($0) 1($3 ptr):", "br 1($1) 1($3 ptr):", "$3 = gep $0, 12 $4 = load i64 $3 !3", "$3 = gep $0, -4 $4 = load i32 $3 !3",
                    "$3 = gep $0, 16 $4 = load i8 $3 !3", "$3 = gep $0, 5 $4 = load i32 $3 !3", "$3 = gep $0, 4 $4 = load i64 $3 !3"):
            self.refused(text.format(row), step)
        for row in ("store i64 i64 1, $0 !2", "$3 = gep $0, 5 $4 = load i16 $3 !3", "$3 = gep $0, 15 store i8 i8 1, $3 !3", "$3 = gep $0, 7 store i1 i1 1, $3 !3", "store ptr @g, $0 !2 $3 = load ptr $0 !3"):
            due = text.format(row).replace("$0 = alloca 16", "$20 = alloca 8 $21 = alloca 8").replace("gep $0, 8", "gep $21, 0").replace("gep $0, 15", "gep $21, 7").replace("$0", "$20")
            self.done(text.format(row), step, due)

    def test_other_geps_stay(self):
        text = "0(): $0 = alloca 16 $1 = alloca 16 $2 = gep $1, 8 $3 = gep @g, 1 $4 = gep $0, 8 $5 = load i32 $2 !1 $6 = load i8 $3 !2 $7 = load i32 $4 !3 ret $7"
        self.done(text, ("split_alloca", "main", 0, 0, (8, 8), (20, 21)), text.replace("$0 = alloca 16", "$20 = alloca 8 $21 = alloca 8").replace("gep $0, 8", "gep $21, 0"))

    def test_geps_that_are_not_accessed(self):
        text = "0(): $0 = alloca 16 $1 = gep $0, 9 $2 = gep $0, 3 ret i32 0"
        self.done(text, ("split_alloca", "main", 0, 0, (8, 8), (20, 21)), "0(): $20 = alloca 8 $21 = alloca 8 $1 = gep $21, 1 $2 = gep $20, 3 ret i32 0")
        # Outside of all parts.
        text = "0(): $0 = alloca 16 $1 = gep $0, 40 $2 = gep $0, -3 ret i32 0"
        self.done(text, ("split_alloca", "main", 0, 0, (8, 8), (20, 21)), "0(): $20 = alloca 8 $21 = alloca 8 $1 = gep $21, 32 $2 = gep $20, -3 ret i32 0")
        self.done("0(): $0 = alloca 2 ret i32 0", ("split_alloca", "main", 0, 0, (1, 1), (1, 0 + 2)), "0(): $1 = alloca 1 $2 = alloca 1 ret i32 0")


class DropKillsTest(StepCase):

    head = "global g 1 2 3 4 5 6 7 8"

    def test_drop_kills(self):
        text = "0(): $0 = alloca 8 $1 = gep $0, 4 store i32 i32 3, $1 !1 $2 = load i32 $1 !2 kill $0 $3 = call i32 get() !3 ret $2"
        self.done(text, ("drop_kills", "main", 0), text.replace("kill $0 ", ""))
        # Several kills, each at the end of its way; other kills stay.
        text = ("0(): $0 = alloca 8 $1 = alloca 8 $2 = call i32 get() !1 store i32 $2, $0 !2 $3 = icmp eq i32 $2, i32 0 condbr $3, 1(), 2() 1(): kill $0 kill $1 ret i32 1 2(): $4 = load i32 $0 !3 kill $0 ret $4")
        self.done(text, ("drop_kills", "main", 0), text.replace("kill $0 ", ""))
        self.done(text, ("drop_kills", "main", 1), text.replace("kill $1 ", ""))
        self.done("0(): $0 = alloca 8 ret i32 0", ("drop_kills", "main", 0), "0(): $0 = alloca 8 ret i32 0")

    def test_ways_from_a_kill(self):
        head = "0(): $0 = alloca 8 $9 = gep $0, 4 "
        for rest in ("kill $0 $1 = load i32 $0 !1 ret $1", "kill $0 store i32 i32 1, $9 !1 ret i32 0", "kill $0 kill $0 ret i32 0", "kill $0 br 1() 1(): $1 = load i32 $9 !1 ret $1", "br 1() 1(): kill $0 br 1()",
                     "br 1() 1(): $1 = load i32 $0 !1 kill $0 br 1()", "kill $0 $1 = gep $0, 1 ret i32 0", "kill $0 $1 = gep $9, 1 ret i32 0", "kill $0 condbr i1 1, 1(), 2() 1(): ret i32 0 2(): $1 = load i32 $0 !1 ret $1"):
            self.refused(head + rest, ("drop_kills", "main", 0))
        # A new object is made on the way.
        text = "0(): br 1(i32 0) 1($5 i32): $0 = alloca 8 $9 = gep $0, 4 store i32 $5, $9 !1 $1 = load i32 $9 !2 kill $0 $6 = add i32 $1, i32 1 $7 = icmp ult i32 $6, i32 9 condbr $7, 1($6), 2() 2(): ret $1"
        self.done(text, ("drop_kills", "main", 0), text.replace("kill $0 ", ""))
        text = "0(): br 1() 1(): $0 = alloca 8 $6 = call i32 get() !1 $7 = icmp eq i32 $6, i32 7 kill $0 condbr $7, 1(), 2() 2(): ret $6"
        self.done(text, ("drop_kills", "main", 0), text.replace("kill $0 ", ""))
        text = ("0(): br 1(i32 0) 1($5 i32): $0 = alloca 8 br 2() 2(): store i32 $5, $0 !2 kill $0 $6 = add i32 $5, i32 1 $7 = icmp ult i32 $6, i32 9 condbr $7, 1($6), 3() 3(): br 3()")
        self.done(text, ("drop_kills", "main", 0), text.replace("kill $0 ", ""))
        # The kill itself, met again without a new object.
        self.refused("0(): $0 = alloca 8 br 1(i32 0) 1($5 i32): kill $0 $6 = add i32 $5, i32 1 $7 = icmp ult i32 $6, i32 9 condbr $7, 1($6), 2() 2(): ret $6", ("drop_kills", "main", 0))

    def test_uses(self):
        text = "0(): $0 = alloca 16 $1 = gep $0, 8 {} kill $0 ret i32 0"
        for row in ("$2 = load i64 $1 !2", "store i64 i64 1, $0 !2", "$2 = gep $0, 0, i64 1 * 8 $3 = load i8 $2 !3", "$2 = gep $1, 4 $3 = gep $2, 1 store i8 i8 1, $3 !3", ""):
            self.done(text.format(row), ("drop_kills", "main", 0), text.format(row).replace("kill $0 ", ""))
        for row in ("store ptr $0, @g !2", "store ptr $1, @g !2", "store ptr $0, $0 !2", "kill $1", "call void free($0) !2", "$2 = icmp eq ptr $0, null", "$2 = select ptr i1 1, $0, $1", "br 1($0) 1($2 ptr):", "br 1($1) 1($2 ptr):",
                    "$2 = gep $1, 0 kill $2"):
            self.refused(text.format(row), ("drop_kills", "main", 0))

    def test_names(self):
        text = "internal f ptr { 0($3 ptr): $0 = alloca 8 $1 = gep $0, 4 $2 = call ptr malloc(i64 8) !1 kill $0 kill $3 ret null }"
        self.done(text, ("drop_kills", "f", 0), text.replace("kill $0 ", ""))
        self.refused(text, *[("drop_kills", "f", name) for name in (1, 2, 3, 9)], ("drop_kills", "main", 0), ("drop_kills", "h", 0))
        self.refused("internal f ptr { 0(): $0 = alloca 8 ret $0 }", ("drop_kills", "f", 0))


class ConstantLoadTest(StepCase):

    head = "constant k 1 2 3 4 5 6 7 255 global g 1 2 3 4 5 6 7 8"

    def test_constant_load(self):
        for rows, operand in (("$1 = load i32 @k !1", "i32 67305985"), ("$1 = load i8 @k !1", "i8 1"), ("$1 = load i1 @k !1", "i1 1"), ("$1 = load i64 @k !1", "i64 18376663423120507393"), ("$0 = gep @k, 7 $1 = load i8 $0 !1", "i8 255"),
                              ("$0 = gep @k, 6 $1 = load i16 $0 !1", "i16 65287"), ("$0 = gep @k, 1 $1 = load i1 $0 !1", "i1 0"), ("$0 = gep @k, 0 $1 = load i32 $0 !1", "i32 67305985")):
            kind = operand.split()[0]
            text = "0(): " + rows + f" store {kind} $1, @g !2 $9 = load i32 @g !3 ret $9"
            load = rows[rows.index("$1"):] + " "
            self.done(text, ("constant_load", "main", 0, 1 if "gep" in rows else 0), text.replace(load, "").replace("$1", operand))

    def test_what_is_refused(self):
        for rows in ("$1 = load i32 @g !1", "$1 = load ptr @k !1", "$0 = gep @k, 5 $1 = load i32 $0 !1", "$0 = gep @k, 8 $1 = load i8 $0 !1", "$0 = gep @k, -1 $1 = load i8 $0 !1", "$0 = gep @g, 0 $1 = load i8 $0 !1",
                     "$0 = gep @k, 0, i64 0 * 1 $1 = load i8 $0 !1", "$2 = gep @k, 1 $0 = gep $2, 1 $1 = load i8 $0 !1", "$1 = load i8 null !1", "$0 = select ptr i1 1, @k, @k $1 = load i8 $0 !1", "$0 = alloca 4 $1 = load i8 $0 !1"):
            text = "0(): " + rows + " ret i32 0"
            k = rows.count("=") - 1
            self.refused(text, ("constant_load", "main", 0, k))
        text = "0(): $1 = load i32 @k !1 $2 = add i32 $1, i32 1 ret $2"
        self.refused(text, *[("constant_load", "main", label, k) for label, k in ((0, 1), (0, 2), (0, -2), (1, 0))], ("constant_load", "f", 0, 0))


class GlobalsTest(StepCase):

    TEXT = "global g 1 2 3 4 constant k 1 2 3 4 global h 1 internal f i32 {{ 0(): {} ret i32 0 }} export main i32 {{ 0(): $0 = load i32 @g !1 $1 = load i8 @h !2 ret $0 }}"

    def test_fix_global(self):
        for rows in ("", "$0 = load i8 @g !1", "$0 = gep @g, 2 $1 = load i8 $0 !1", "$0 = gep @g, 0, i64 1 * 1 $1 = gep $0, 1 $2 = gep $1, 1 $3 = load i8 $2 !1 $4 = gep $1, 7", "store i32 i32 1, @h !1"):
            self.done(self.TEXT.format(rows), ("fix_global", "g"), self.TEXT.format(rows).replace("global g", "constant g"))
        self.done(self.TEXT.format(""), ("fix_global", "k"), self.TEXT.format(""))

    def test_uses_that_keep_it(self):
        for rows in ("store i8 i8 1, @g !1", "store ptr @g, @h !1", "kill @g", "$0 = gep @g, 1 store i8 i8 1, $0 !1", "$0 = gep @g, 1 $1 = gep $0, 1 kill $1", "$0 = select ptr i1 1, @g, @g", "$0 = icmp eq ptr @g, null",
                     "call void free(@g) !1", "br 1(@g) 1($0 ptr):", "$0 = gep @g, 0 br 1($0) 1($1 ptr):", "$0 = gep @g, 1 $1 = icmp eq ptr $0, null", "ret i32 0 1(): store i8 i8 1, @g !1"):
            self.refused(self.TEXT.format(rows), ("fix_global", "g"))
        self.refused(self.TEXT.format(""), ("fix_global", "none"), ("fix_global", "main"), ("fix_global", ""))
        self.refused("global g 1 internal f ptr { 0(): ret @g }", ("fix_global", "g"))

    def test_geps_that_lead_round(self):
        text = "global g 1 export main i32 { 0(): $9 = load i8 @g !1 ret i32 0 1(): $0 = gep @g, 0 $1 = gep $2, 0 $2 = gep $1, 0 ret i32 0 }"
        self.done(text, ("fix_global", "g"), text.replace("global g", "constant g"))

    def test_drop_global(self):
        text = self.TEXT.format("")
        self.done(text, ("drop_global", "k"), text.replace("constant k 1 2 3 4", ""))
        self.refused(text, ("drop_global", "g"), ("drop_global", "h"), ("drop_global", "none"), ("drop_global", "f"))
        for use in ("$0 = gep @k, 0", "ret i32 0 1(): $0 = load i8 @k !1", "br 1(@k) 1($0 ptr):", "store ptr @k, null !1"):
            self.refused(self.TEXT.format(use), ("drop_global", "k"))
        # The other pointers to globals lead to the same objects as before.
        self.done("global a 1 global b 2 global c 3 export main i32 { 0(): $0 = load i8 @c !1 $1 = zext i32 $0 $2 = icmp eq ptr @a, @c ret $1 }", ("drop_global", "b"),
                  "global a 1 global c 3 export main i32 { 0(): $0 = load i8 @c !1 $1 = zext i32 $0 $2 = icmp eq ptr @a, @c ret $1 }")


class BoundsTest(unittest.TestCase):

    def test_greatest_functions(self):
        rows = ((0, "alloca", "ptr", (), (4096,), -1),)
        rows += tuple((k, "gep", "ptr", (("name", 0),), (k % 4096,), -1) for k in range(1, 9999))
        rows += tuple((10000 + k, "load", "i8", (("name", k),), (), k) for k in range(1, 9999))
        rows += ((-1, "kill", "void", (("name", 0),), (), -1),)
        module = ((("g", False, (1,)),), (("main", "i32", False, ((0, (), rows, ("ret", ("int", "i32", 0))),)),))
        left = shallow(lambda: drop_kills(module, ("drop_kills", "main", 0)))
        self.assertIsNotNone(left)
        self.assertIsNotNone(shallow(lambda: split_alloca(left, ("split_alloca", "main", 0, 0, (1,) * 4096, tuple(range(30000, 34096))))))
        chain = tuple((k, "gep", "ptr", (("name", k - 1) if k else ("global", "g"),), (0,), -1) for k in range(19999)) + ((19999, "load", "i8", (("name", 19998),), (), 1),)
        long = ((("g", False, (1,)),), (("main", "i32", False, ((0, (), chain, ("ret", ("int", "i32", 0))),)),))
        self.assertEqual(shallow(lambda: fix_global(long, ("fix_global", "g")))[0], (("g", True, (1,)),))
        self.assertIsNone(shallow(lambda: drop_global(long, ("drop_global", "g"))))
        self.assertIsNone(shallow(lambda: constant_load(long, ("constant_load", "main", 0, 19999))))
        big = ((("g", False, (1,)),), (big_function(),))
        self.assertIsNotNone(shallow(lambda: drop_global(big, ("drop_global", "g"))))

    def test_many_kills(self):
        blocks = [(0, (), ((0, "alloca", "ptr", (), (4,), -1),), ("br", (1, ())))]
        blocks += [(k, (), ((-1, "kill", "void", (("name", 0),), (), -1),) * 9, ("br", (k + 1, ()))) for k in range(1, 1999)]
        blocks.append((1999, (), (), ("ret", ("int", "i32", 0))))
        module = ((), (("main", "i32", False, tuple(blocks)),))
        self.assertIsNone(shallow(lambda: drop_kills(module, ("drop_kills", "main", 0))))


if __name__ == "__main__":
    unittest.main()
