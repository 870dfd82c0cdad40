"""Promises 7.4 to 7.10, 7.12 (fork, edge_value) and 7.13: steps that change blocks and edges."""

import random
import unittest

from burnish.graphsteps import cut, fold_end, gather, join, prune, rename, skip
from burnish.records import canonical_module
from burnish.records import canonical
from stepping import StepCase
from test_bounds import big_function, shallow

GET = "0(): $0 = call i32 get() !1 $1 = icmp ult i32 $0, i32 5 "
MISSING = ("nothing", "Main", "")


class GraphStepsTest(StepCase):

    def test_prune(self):
        self.done("0(): br 2() 1(): br 2() 2(): ret i32 0 3($0 i8): br 4() 4(): br 3($0)", ("prune", "main"), "0(): br 2() 2(): ret i32 0")
        self.done("0(): ret i32 0", ("prune", "main"), "0(): ret i32 0")
        # An edge that is never taken is an edge.
        self.done("0(): condbr i1 1, 1(), 2() 2(): ret i32 2 1(): ret i32 1", ("prune", "main"), "0(): condbr i1 1, 1(), 2() 2(): ret i32 2 1(): ret i32 1")
        self.refused("0(): ret i32 0", *[("prune", name) for name in MISSING])

    def test_prune_of_one_function(self):
        text = "internal f void {{ 0(): ret {} }} export main i32 {{ 0(): call void f() !1 ret i32 0 1(): stop !1 }}"
        self.done(text.format("1(): ret"), ("prune", "f"), text.format(""))

    def test_fold_end(self):
        ends = " 1(): ret i32 1 2(): ret i32 2 3($2 i32): ret $2"
        for end, due in (("condbr i1 1, 1(), 2()", "1()"), ("condbr i1 0, 1(), 2()", "2()"), ("condbr i1 0, 1(), 3(i32 7)", "3(i32 7)"),
                         ("condbr $1, 3($0), 3($0)", "3($0)"), ("condbr $1, 1(), 1()", "1()"), ("condbr i1 1, 3(i32 1), 3(i32 2)", "3(i32 1)"),
                         ("switch i8 5, 4: 1(), 5: 2(), else 3($0)", "2()"), ("switch i8 6, 4: 1(), 5: 2(), else 3($0)", "3($0)"), ("switch i8 4, else 2()", "2()"),
                         ("switch $0, 4: 2(), 9: 2(), else 2()", "2()"), ("switch $0, else 3($0)", "3($0)"), ("switch i64 18446744073709551615, 18446744073709551615: 1(), else 2()", "1()")):
            self.done(GET + end + ends, ("fold_end", "main", 0), GET + "br " + due + ends)
        for end in ("condbr $1, 1(), 2()", "condbr $1, 3(i32 1), 3(i32 2)", "condbr $1, 3($0), 1()", "switch $0, 4: 1(), else 2()", "switch $0, 4: 3($0), else 3(i32 4)",
                    "br 1()", "ret $0", "stop !9"):
            self.refused(GET + end + ends, ("fold_end", "main", 0))
        self.refused(GET + "condbr i1 1, 1(), 2()" + ends, ("fold_end", "main", 9), ("fold_end", "main", -1), ("fold_end", "none", 0))

    def test_drop_case(self):
        ends = " 1(): ret i32 1 2(): ret i32 2 3($2 i32): ret $2"
        end = "switch $0, 1: 3($0), 2: 1(), 3: 3($0), 4: 3(i32 4), 5: 2(), else 3($0)"
        self.done(GET + end + ends, ("drop_case", "main", 0, 0), GET + end.replace("1: 3($0), ", "") + ends)
        self.done(GET + end + ends, ("drop_case", "main", 0, 2), GET + end.replace("3: 3($0), ", "") + ends)
        self.done(GET + "switch $0, 9: 1(), else 1()" + ends, ("drop_case", "main", 0, 0), GET + "switch $0, else 1()" + ends)
        self.refused(GET + end + ends, *[("drop_case", "main", 0, k) for k in (1, 3, 4, 5, 6, -1, -5)], ("drop_case", "main", 1, 0), ("drop_case", "main", 8, 0), ("drop_case", "f", 0, 0))
        self.refused(GET + "condbr $1, 1(), 1()" + ends, ("drop_case", "main", 0, 0))

    def test_as_condbr(self):
        ends = " 1(): ret i32 1 3($2 i32): ret $2"
        self.done(GET + "switch $0, 7: 3($0), else 1()" + ends, ("as_condbr", "main", 0, 9), GET + "$9 = icmp eq i32 $0, i32 7 condbr $9, 3($0), 1()" + ends)
        self.done("0(): switch i8 7, 255: 1(), else 1() 1(): ret i32 1", ("as_condbr", "main", 0, 0), "0(): $0 = icmp eq i8 i8 7, i8 255 condbr $0, 1(), 1() 1(): ret i32 1")
        for end in ("switch $0, else 1()", "switch $0, 7: 3($0), 8: 1(), else 1()", "condbr $1, 3($0), 1()", "br 1()"):
            self.refused(GET + end + ends, ("as_condbr", "main", 0, 9))
        self.refused(GET + "switch $0, 7: 3($0), else 1()" + ends, *[("as_condbr", "main", 0, name) for name in (0, 1, 2, 10 ** 9)], ("as_condbr", "main", 5, 9), ("as_condbr", "f", 0, 9))

    def test_swap(self):
        ends = " 1(): ret i32 1 3($2 i32): ret $2"
        names = {"eq": "ne", "ult": "uge", "ule": "ugt", "slt": "sge", "sle": "sgt"}
        for first, second in list(names.items()) + [(b, a) for a, b in names.items()]:
            head = "0(): $0 = call i32 get() !1 $1 = icmp {} i32 $0, i32 5 call void put(i32 65) !2 "
            self.done(head.format(first) + "condbr $1, 1(), 3($0)" + ends, ("swap", "main", 0), head.format(second) + "condbr $1, 3($0), 1()" + ends)
        for text in (GET + "condbr $1, 1(), 3($0)" + ends.replace("$2 i32", "$2 i32").replace("ret i32 1", "$5 = zext i32 $1 ret $5"),
                     GET + "$9 = zext i32 $1 condbr $1, 1(), 3($0)" + ends, GET + "condbr $1, 4($1), 1() 4($4 i1): ret i32 4" + ends,
                     GET + "condbr i1 1, 1(), 3($0)" + ends, GET + "$3 = xor i1 $1, i1 1 condbr $3, 1(), 3($0)" + ends, GET + "br 5() 5(): condbr $1, 1(), 3($0)" + ends,
                     GET + "br 1()" + ends, GET + "switch $1, 1: 1(), else 3($0)" + ends):
            label = 5 if "5()" in text else 0
            self.refused(text, ("swap", "main", label))
        self.refused(GET + "condbr $1, 1(), 3($0)" + ends, ("swap", "main", 7), ("swap", "f", 0))

    def test_join(self):
        self.done("0(): $0 = call i32 get() !1 br 1($0, i32 4) 2(): ret i32 2 1($1 i32, $2 i32): call void put($1) !2 $3 = add i32 $1, $2 br 3($3) 3($4 i32): $5 = add i32 $2, $4 ret $5",
                  ("join", "main", 0), "0(): $0 = call i32 get() !1 call void put($0) !2 $3 = add i32 $0, i32 4 br 3($3) 2(): ret i32 2 3($4 i32): $5 = add i32 i32 4, $4 ret $5")
        # The params are replaced in the block itself and in all others, at the same time.
        self.done("0(): br 1(i32 1, i32 2) 1($0 i32, $1 i32): br 2() 2(): $2 = sub i32 $0, $1 ret $2", ("join", "main", 0), "0(): br 2() 2(): $2 = sub i32 i32 1, i32 2 ret $2")
        self.done("0(): br 1() 1(): br 1() 2(): br 3() 3(): ret i32 0", ("join", "main", 2), "0(): br 1() 1(): br 1() 2(): ret i32 0")
        self.refused("0(): br 1() 1(): br 1()", ("join", "main", 0), ("join", "main", 1))
        self.refused("0(): ret i32 0 1(): br 1()", ("join", "main", 1))
        self.refused(GET + "condbr $1, 1(), 1() 1(): ret i32 0", ("join", "main", 0))
        self.refused(GET + "condbr $1, 1(), 2() 1(): br 2() 2(): ret i32 0", ("join", "main", 0), ("join", "main", 1), ("join", "main", 2))
        self.refused("0(): br 1() 1(): ret i32 0 2(): br 1()", ("join", "main", 0), ("join", "main", 9), ("join", "f", 0))
        self.faulty("0(): ret i32 0 1(): br 2($1) 2($1 i32): ret $1", ("join", "main", 1))

    def test_cut(self):
        text = "0(): $0 = call i32 get() !1 $1 = add i32 $0, i32 1 br 1($1) 1($2 i32): ret $2"
        self.done(text, ("cut", "main", 0, 0, 9), "0(): br 9() 1($2 i32): ret $2 9(): $0 = call i32 get() !1 $1 = add i32 $0, i32 1 br 1($1)")
        self.done(text, ("cut", "main", 0, 1, 9), "0(): $0 = call i32 get() !1 br 9() 1($2 i32): ret $2 9(): $1 = add i32 $0, i32 1 br 1($1)")
        self.done(text, ("cut", "main", 0, 2, 9), "0(): $0 = call i32 get() !1 $1 = add i32 $0, i32 1 br 9() 1($2 i32): ret $2 9(): br 1($1)")
        self.done(text, ("cut", "main", 1, 0, 2), text.replace("ret $2", "br 2() 2(): ret $2"))
        self.done("0(): br 1() 1(): br 1()", ("cut", "main", 1, 0, 7), "0(): br 1() 1(): br 7() 7(): br 1()")
        rows = "".join(f"$1{k} = call i32 get() !{k} " for k in range(6))
        self.done("0(): " + rows + "ret i32 0", ("cut", "main", 0, 6, 1), "0(): " + rows + "br 1() 1(): ret i32 0")
        self.refused(text, *[("cut", "main", 0, k, 9) for k in (-1, 3)], *[("cut", "main", 0, 0, label) for label in (0, 1, -1, 10 ** 9)], ("cut", "main", 5, 0, 9), ("cut", "f", 0, 0, 9))

    def test_skip(self):
        ends = " 1($2 i32): br 2($2, i32 7) 2($3 i32, $4 i32): $5 = add i32 $3, $4 ret $5"
        self.done("0(): $0 = call i32 get() !1 br 1($0)" + ends, ("skip", "main", 0, 0), "0(): $0 = call i32 get() !1 br 2($0, i32 7)" + ends)
        self.done(GET + "condbr $1, 2($0, $0), 1(i32 3)" + ends, ("skip", "main", 0, 1), GET + "condbr $1, 2($0, $0), 2(i32 3, i32 7)" + ends)
        self.done(GET + "switch $0, 3: 1($0), 4: 1(i32 9), else 1(i32 3)" + ends, ("skip", "main", 0, 1), GET + "switch $0, 3: 1($0), 4: 2(i32 9, i32 7), else 1(i32 3)" + ends)
        # The params change places at the same time; the block may lead to itself.
        self.done("0(): $0 = call i32 get() !1 br 1($0, i32 5) 1($1 i32, $2 i32): br 1($2, $1)", ("skip", "main", 0, 0),
                  "0(): $0 = call i32 get() !1 br 1(i32 5, $0) 1($1 i32, $2 i32): br 1($2, $1)")
        # Names of other blocks may be passed on.
        self.done("0(): $0 = call i32 get() !1 br 1() 1(): br 2($0) 2($2 i32): ret $2", ("skip", "main", 0, 0), "0(): $0 = call i32 get() !1 br 2($0) 1(): br 2($0) 2($2 i32): ret $2")
        self.refused("0(): br 1() 1(): br 1()", ("skip", "main", 1, 0))
        self.refused("0(): br 1() 1(): call void put(i32 1) !1 br 2() 2(): ret i32 0", ("skip", "main", 0, 0))
        self.refused(GET + "br 1() 1(): condbr $1, 2(), 2() 2(): ret i32 0", ("skip", "main", 0, 0), ("skip", "main", 1, 0))
        self.refused("0(): br 1(i32 4) 1($0 i32): br 2() 2(): ret $0", ("skip", "main", 0, 0))
        self.refused("0(): $0 = call i32 get() !1 br 1($0)" + ends, ("skip", "main", 0, 1), ("skip", "main", 0, -1), ("skip", "main", 2, 0), ("skip", "main", 9, 0), ("skip", "f", 0, 0))

    def test_gather(self):
        text = GET + "condbr $1, 2(i32 8, $0), 1() 1(): br 2($0, i32 6) 2($2 i32, $3 i32): $4 = add i32 $2, $3 condbr $1, 2($4, i32 2), 3() 3(): ret $4"
        behind = " 9($8 i32, $7 i32): br 2($8, $7)"
        self.done(text, ("gather", "main", 9, (8, 7), ((0, 0),)), text.replace("$1, 2(i32 8", "$1, 9(i32 8") + behind)
        self.done(text, ("gather", "main", 9, (8, 7), ((0, 0), (1, 0))), text.replace("$1, 2(i32 8", "$1, 9(i32 8").replace("br 2(", "br 9(") + behind)
        self.done(text, ("gather", "main", 9, (8, 7), ((2, 0),)), text.replace("2($4, i32 2)", "9($4, i32 2)") + behind)
        self.done(text, ("gather", "main", 9, (), ((0, 1),)), text.replace("2(i32 8, $0), 1()", "2(i32 8, $0), 9()") + " 9(): br 1()")
        good = ("gather", "main", 9, (8, 7), ((0, 0), (1, 0)))
        self.refused(text, good[:4] + ((),), good[:4] + (((1, 0), (0, 0)),), good[:4] + (((0, 0), (0, 0)),), good[:4] + (((0, 0), (0, 1)),), good[:4] + (((0, 2),),), good[:4] + (((0, -1),),),
                     good[:4] + (((7, 0),),), good[:4] + (((3, 0),),), ("gather", "f") + good[2:])
        self.refused(text, *[good[:2] + (label,) + good[3:] for label in (0, 3, -1, 10 ** 9)], *[good[:3] + (names,) + good[4:] for names in ((8,), (8, 7, 6), (), (8, 8), (8, 0), (8, 10 ** 9))])

    def test_fork(self):
        text = GET + "br 1($0) 1($2 i32): br 2() 2(): ret $2"
        self.done(text, ("fork", "main", 0, ("name", 1)), text.replace("br 1($0)", "condbr $1, 1($0), 1($0)"))
        self.done(text, ("fork", "main", 1, ("name", 1)), text.replace("br 2()", "condbr $1, 2(), 2()"))
        self.done(text, ("fork", "main", 0, ("int", "i1", 0)), text.replace("br 1($0)", "condbr i1 0, 1($0), 1($0)"))
        far = text.replace("br 1($0)", "$7 = add i32 $0, i32 1 $8 = icmp eq i32 $7, i32 3 br 1($7)")
        self.done(far, ("fork", "main", 0, ("name", 8)), far.replace("br 1($7)", "condbr $8, 1($7), 1($7)"))
        self.refused(text, ("fork", "main", 0, ("name", 0)), ("fork", "main", 0, ("name", 9)), ("fork", "main", 0, ("int", "i8", 1)), ("fork", "main", 0, ("null",)), ("fork", "main", 2, ("name", 1)),
                     ("fork", "main", 7, ("name", 1)), ("fork", "f", 0, ("name", 1)))
        later = "0(): br 1() 1(): $0 = call i32 get() !1 $1 = icmp eq i32 $0, i32 0 br 2() 2(): ret $0 3(): br 2()"
        self.refused(later.replace("3(): br 2()", ""), ("fork", "main", 0, ("name", 1)))
        self.done(later.replace("ret $0", "ret i32 1"), ("fork", "main", 3, ("name", 1)), later.replace("ret $0", "ret i32 1").replace("3(): br 2()", "3(): condbr $1, 2(), 2()"))
        self.refused(text.replace("br 1($0)", "condbr $1, 1($0), 1($0)"), ("fork", "main", 0, ("name", 1)))

    def test_edge_value(self):
        text = GET + "condbr $1, 1($1, $0), 1($1, i32 4) 1($2 i1, $3 i32): $4 = zext i32 $2 $5 = add i32 $4, $3 ret $5"
        self.done(text, ("edge_value", "main", 0, 0), text.replace("1($1, $0)", "1(i1 1, $0)"))
        self.done(text, ("edge_value", "main", 0, 1), text.replace("1($1, i32", "1(i1 0, i32"))
        switch = GET + "switch $0, 3: 1($0, $0), 7: 1($0, i32 1), else 1($0, $0) 1($2 i32, $3 i32): $5 = add i32 $2, $3 ret $5"
        self.done(switch, ("edge_value", "main", 0, 0), switch.replace("3: 1($0, $0)", "3: 1(i32 3, i32 3)"))
        self.done(switch, ("edge_value", "main", 0, 1), switch.replace("7: 1($0, i32 1)", "7: 1(i32 7, i32 1)"))
        more = GET + "switch $0, 3: 1(i32 1), 7: 1(i32 2), 8: 1($0), 9: 1($0), else 1($0) 1($2 i32): ret $2"
        self.done(more, ("edge_value", "main", 0, 3), more.replace("9: 1($0)", "9: 1(i32 9)"))
        self.refused(more, ("edge_value", "main", 0, 4))
        # Nothing need be there to be replaced.
        self.done(GET + "condbr $1, 1(), 1() 1(): ret i32 0", ("edge_value", "main", 0, 0), GET + "condbr $1, 1(), 1() 1(): ret i32 0")
        self.refused(switch, ("edge_value", "main", 0, 2), ("edge_value", "main", 0, 3), ("edge_value", "main", 0, -1), ("edge_value", "main", 1, 0), ("edge_value", "main", 8, 0), ("edge_value", "f", 0, 0))
        self.refused(text, ("edge_value", "main", 0, 2), ("edge_value", "main", 0, -1))
        self.refused(text.replace("condbr $1", "condbr i1 1"), ("edge_value", "main", 0, 0))
        self.refused(switch.replace("switch $0", "switch i32 3"), ("edge_value", "main", 0, 0))
        self.refused(GET + "br 1($1) 1($2 i1): ret i32 0", ("edge_value", "main", 0, 0))

    def test_rename(self):
        text = "5(): $3 = call i32 get() !1 br 2($3) 2($1 i32): $0 = icmp eq i32 $1, $3 condbr $0, 2($3), 7() 7(): ret $1"
        self.done(text, ("rename", "main", ((2, 20), (5, 2), (7, 5)), ((0, 1), (1, 0), (3, 999999999))),
                  "2(): $999999999 = call i32 get() !1 br 20($999999999) 20($0 i32): $1 = icmp eq i32 $0, $999999999 condbr $1, 20($999999999), 5() 5(): ret $0")
        self.done("0(): $0 = call i32 get() !1 call void put($0) !2 kill null ret $0", ("rename", "main", ((0, 3),), ((0, 7),)), "3(): $7 = call i32 get() !1 call void put($7) !2 kill null ret $7")
        same = ("rename", "main", ((2, 2), (5, 5), (7, 7)), ((0, 0), (1, 1), (3, 3)))
        self.done(text, same, text)
        self.refused(text, *[same[:2] + (labels,) + same[3:] for labels in (((2, 2), (5, 5)), ((2, 2), (5, 5), (7, 7), (8, 8)), ((5, 5), (2, 2), (7, 7)), ((2, 2), (2, 3), (5, 5), (7, 7)), ((2, 2), (5, 5), (6, 7)),
                                                                             ((2, 2), (5, 5), (7, 5)), ((2, -2), (5, 5), (7, 7)), ((2, 10 ** 9), (5, 5), (7, 7)), ())])
        self.refused(text, *[same[:3] + (names,) for names in (((0, 0), (1, 1)), ((0, 0), (1, 1), (3, 3), (4, 4)), ((1, 1), (0, 0), (3, 3)), ((0, 0), (0, 5), (1, 1), (3, 3)), ((0, 0), (1, 1), (2, 3)),
                                                               ((0, 0), (1, 1), (3, 1)), ((0, 10 ** 9), (1, 1), (3, 3)), ())])
        self.refused(text, ("rename", "f") + same[2:])


class BoundsTest(unittest.TestCase):

    def test_greatest_function(self):
        function = big_function()
        module = ((), (function,))
        self.assertTrue(shallow(lambda: prune(module, ("prune", "main"))) == module)
        self.assertEqual(shallow(lambda: fold_end(module, ("fold_end", "main", 7)))[1][0][3][7][3], ("br", (8, ())))
        self.assertEqual(len(shallow(lambda: cut(module, ("cut", "main", 7, 3, 9999)))[1][0][3]), 2001)
        self.assertEqual(len(shallow(lambda: gather(module, ("gather", "main", 9999, (), ((6, 0), (8, 1)))))[1][0][3]), 2001)
        self.assertIsNone(shallow(lambda: join(module, ("join", "main", 0))))
        self.assertIsNone(shallow(lambda: skip(module, ("skip", "main", 0, 0))))
        rnd = random.Random(3)
        labels = rnd.sample(range(10 ** 9), 2000)
        names = rnd.sample(range(10 ** 9), 20000)
        changed = shallow(lambda: rename(module, ("rename", "main", tuple(enumerate(labels)), tuple(enumerate(names)))))
        self.assertTrue(canonical(changed[1][0]) == canonical(function))
        self.assertEqual([block[0] for block in changed[1][0][3]], labels)
        self.assertTrue(canonical_module(changed) == canonical_module(module))

    def test_many_edges(self):
        cases = tuple((k, (1, (("int", "i32", k),))) for k in range(9000))
        blocks = ((0, (), ((0, "call", "i32", (), ("get",), 0),), ("switch", ("name", 0), cases, (1, (("name", 0),)))), (1, ((1, "i32"),), (), ("ret", ("name", 1))))
        module = ((), (("main", "i32", False, blocks),))
        changed = shallow(lambda: gather(module, ("gather", "main", 5, (9,), tuple((0, slot) for slot in range(9001)))))
        self.assertEqual(changed[1][0][3][0][3][2][77], (77, (5, (("int", "i32", 77),))))


if __name__ == "__main__":
    unittest.main()
