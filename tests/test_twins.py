"""Promise 7.11: twins."""

import unittest

from burnish.check import apply_step
from burnish.parse import parse_module
from burnish.show import show_module
from burnish.twins import twins
from stepping import StepCase
from test_bounds import shallow

GET = "0(): $0 = call i32 get() !1 $1 = icmp ult i32 $0, i32 5 "
LOOP = "{}($1{} i32): $2{} = add i32 $1{}, i32 1 call void put($2{}) !2 $3{} = icmp ult i32 $2{}, $0 condbr $3{}, {}($2{}), 3($1{}) "


def block(label, mark, target):
    return LOOP.format(label, mark, mark, mark, mark, mark, mark, mark, target, mark, mark)


HEAD = "0(): $0 = call i32 get() !1 br {}(i32 0) "
TAIL = "3($9 i32): ret $9"


class TwinsTest(StepCase):

    def test_blocks_with_the_same_edges(self):
        text = HEAD.format(1) + block(1, 0, 1) + block(2, 1, 1) + TAIL
        self.done(text, ("twins", "main", ((1, 2),), 0, 0, 2), HEAD.format(2) + block(1, 0, 1) + block(2, 1, 1) + TAIL)
        self.done(text, ("twins", "main", ((1, 2),), 1, 0, 2), HEAD.format(1) + block(1, 0, 2) + block(2, 1, 1) + TAIL)
        self.done(text, ("twins", "main", ((1, 2), (2, 1)), 2, 0, 2), HEAD.format(1) + block(1, 0, 1) + block(2, 1, 2) + TAIL)

    def test_blocks_that_lead_to_each_other(self):
        text = HEAD.format(1) + block(1, 0, 2) + block(2, 1, 1) + TAIL
        self.done(text, ("twins", "main", ((1, 2), (2, 1)), 1, 0, 1), HEAD.format(1) + block(1, 0, 1) + block(2, 1, 1) + TAIL)
        # The pairs are ordered: the edge of 1 leads to 2 and that of 2 to 1, so (2, 1) must be a pair.
        self.refused(text, ("twins", "main", ((1, 2),), 0, 0, 2), ("twins", "main", ((2, 1),), 1, 0, 1))

    def test_unrolled_loop(self):
        # Two copies of a loop of two blocks, as unrolling leaves them.
        text = ("0(): br 1() 1(): call void put(i32 65) !1 br 2() 2(): $1 = call i32 get() !2 $4 = icmp eq i32 $1, i32 7 condbr $4, 9(), 11() "
                "11(): call void put(i32 65) !1 br 12() 12(): $2 = call i32 get() !2 $5 = icmp eq i32 $2, i32 7 condbr $5, 9(), 21() "
                "21(): call void put(i32 65) !1 br 22() 22(): $3 = call i32 get() !2 $6 = icmp eq i32 $3, i32 7 condbr $6, 9(), 11() 9(): ret i32 0")
        pairs = ((11, 1), (11, 21), (12, 2), (12, 22), (21, 11), (22, 12))
        self.done(text, ("twins", "main", pairs, 22, 1, 1), text.replace("condbr $6, 9(), 11()", "condbr $6, 9(), 1()"))
        for k in range(6):
            self.refused(text, ("twins", "main", pairs[:k] + pairs[k + 1:], 22, 1, 1))

    def test_what_is_refused(self):
        text = HEAD.format(1) + block(1, 0, 1) + block(2, 1, 1) + TAIL + " 4(): stop !9 5(): ret i32 0"
        good = ("twins", "main", ((1, 2),), 0, 0, 2)
        self.refused(text, *[good[:2] + (pairs,) + good[3:] for pairs in ((), ((2, 1),), ((1, 2), (1, 2)), ((2, 1), (1, 2)), ((1, 1),), ((1, 2), (3, 3)), ((0, 2), (1, 2)), ((1, 2), (2, 0)), ((1, 2), (4, 5)),
                                                                          ((1, 2), (7, 8)), ((1, 3),))])
        self.refused(text, good[:3] + (0, 1, 2), good[:3] + (0, -1, 2), good[:3] + (7, 0, 2), good[:3] + (5, 0, 2), good[:3] + (1, 1, 2), good[:5] + (1,), good[:5] + (3,), good[:5] + (9,), ("twins", "f") + good[2:])

    def test_blocks_that_are_not_alike(self):
        good = ("twins", "main", ((1, 2),), 0, 0, 2)
        first = HEAD.format(1) + block(1, 0, 1)
        for old, new in (("i32 1 ", "i32 2 "), ("add i32 $11", "sub i32 $11"), ("!2", "!3"), ("ult", "ule"), ("$0 condbr", "$11 condbr"), ("3($11)", "3($21)"), ("call void put($21)", "call void put($11)"),
                         ("1($21)", "1($11)"), ("3($11)", "4()"), ("$21 = add i32 $11, i32 1", "$21 = add i32 $11, i32 1 $7 = add i32 $11, i32 1"), ("call void put($21) !2", ""),
                         ("condbr $31, 1($21), 3($11)", "condbr $31, 3($11), 1($21)"), ("condbr $31, 1($21), 3($11)", "br 1($21)"), ("condbr $31, 1($21), 3($11)", "condbr i1 1, 1($21), 3($11)")):
            second = block(2, 1, 1)
            self.assertIn(old, second)
            self.refused(first + second.replace(old, new) + TAIL + " 4(): ret i32 4", good)
        # Params of other kinds, and more of them.
        text = GET + "br 1($0) 1($2 i32): ret $0 2($3 i8): ret $0"
        self.refused(text, ("twins", "main", ((1, 2),), 0, 0, 2))
        self.refused(text.replace("2($3 i8)", "2($3 i32, $4 i32)"), ("twins", "main", ((1, 2),), 0, 0, 2))
        self.done(text.replace("2($3 i8)", "2($3 i32)"), ("twins", "main", ((1, 2),), 0, 0, 2), text.replace("2($3 i8)", "2($3 i32)").replace("br 1", "br 2"))

    def test_the_entry_is_no_twin(self):
        text = "0(): br 1(i32 0) " + block(1, 0, 1) + block(2, 1, 1) + "3($9 i32): br 5() 5(): br 1(i32 0)"
        text = text.replace("$0 condbr", "i32 4 condbr")
        self.done(text, ("twins", "main", ((1, 2),), 0, 0, 2), text.replace("0(): br 1", "0(): br 2"))
        self.refused(text, ("twins", "main", ((0, 5), (1, 2)), 0, 0, 2), ("twins", "main", ((1, 2), (5, 0)), 0, 0, 2))

    def test_blocks_that_are_not_closed(self):
        text = GET + "br 1($0) 1($2 i32): $4 = add i32 $2, i32 1 br 3() 2($3 i32): $5 = add i32 $3, i32 1 br 3() 3(): ret {}"
        good = ("twins", "main", ((1, 2),), 0, 0, 2)
        self.refused(text.format("$4"), good)
        self.refused(text.format("$2"), good)
        self.done(text.format("$0"), good, text.format("$0").replace("br 1", "br 2"))
        self.refused(text.format("$0") + " 4(): ret $5", good)

    def test_modules_that_would_have_faults(self):
        # The twin uses a name that is not there on the new way.
        text = GET + "condbr $1, 1(), 4() 1(): br 3($0) 4(): $2 = add i32 $0, i32 1 br 2() 2(): br 3($2) 3($3 i32): ret $3"
        self.refused(text, ("twins", "main", ((1, 2),), 0, 0, 2))
        text = GET + "condbr $1, 1(), 2() 2(): $2 = add i32 $0, i32 1 br 3() 3(): $3 = add i32 $0, i32 1 condbr $1, 4($2), 5($2) 4($4 i32): ret i32 1 5($5 i32): ret i32 1 1(): ret i32 2"
        self.done(text, ("twins", "main", ((4, 5),), 3, 0, 5), text.replace("$1, 4($2)", "$1, 5($2)"))

    def test_constants_and_ends(self):
        for end in ("ret i32 3", "stop !4", "switch $0, 1: 3($0), else 3(i32 7)", "br 3($0)"):
            text = GET + f"condbr $1, 1(), 2() 1(): {end} 2(): {end} 3($9 i32): ret $9"
            self.done(text, ("twins", "main", ((1, 2),), 0, 0, 2), text.replace("$1, 1()", "$1, 2()"))
            self.refused(text.replace("2(): " + end, "2(): stop !5"), ("twins", "main", ((1, 2),), 0, 0, 2))

    def test_many_pairs(self):
        blocks = [(0, (), (), ("br", (1, ())))]
        for k in range(1, 1999, 2):
            for label in (k, k + 1):
                row = (label, "add", "i32", (("int", "i32", k), ("int", "i32", 1)), (), -1)
                blocks.append((label, (), (row,) * 1, ("br", (label + 2 if k < 1997 else 1999, ()))))
        blocks.append((1999, (), (), ("ret", ("int", "i32", 0))))
        module = ((), (("main", "i32", False, tuple(blocks)),))
        step = ("twins", "main", tuple((k, k + 1) for k in range(1, 1999, 2)), 0, 0, 2)
        changed = shallow(lambda: twins(module, step))
        self.assertEqual(changed[1][0][3][0][3], ("br", (2, ())))
        self.assertEqual(apply_step(module, step), changed)
        self.assertEqual(parse_module(show_module(changed)), changed)


if __name__ == "__main__":
    unittest.main()
