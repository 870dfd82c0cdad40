"""Promises 9.23 and 9.27: hoist and unswitch."""

import random
import unittest

from burnish.check import apply_step, check
from burnish.edits import block_names, incoming, is_pure, uses
from burnish.graph import definition_places, graph_of, live_names, reverse_postorder
from burnish.invariants import hoist, unswitch
from burnish.loops import loops, preheader
from burnish.plainloops import plain, simple_loops
from burnish.records import find_block, find_function, new_label, new_name
from burnish.scopes import kinds_of, reached
from burnish.solve import solve_values
from burnish.values import range_of
from passing import PassCase, random_module
from shaped import Shaper
from test_bounds import shallow
from test_plainloops import branchy


def slow_hoist(module, name, amount):
    """Return the steps of hoist, by the words of the document."""
    found = []
    if len(reached(find_function(module, name))) < len(find_function(module, name)[3]):
        found.append(("prune", name))
        module = apply_step(module, found[-1])
    while len([step for step in found if step[0] == "move"]) < amount:
        function = find_function(module, name)
        graph = graph_of(function)
        order = reverse_postorder(graph)
        places = definition_places(function)
        step = None
        for loop in sorted(loops(graph), key=lambda loop: (-loop[4], loop[0])):
            ahead = preheader(graph, loop)
            if ahead == -1 or step is not None:
                continue
            for label in [label for label in order if label in loop[1]]:
                for k, row in enumerate(find_block(function, label)[2]):
                    if step is None and is_pure(row) and not any(operand[0] == "name" and places[operand[1]][0] in loop[1] for operand in row[3]):
                        step = ("move", name, label, k, ahead, len(find_block(function, ahead)[2]))
        if step is None:
            break
        found.append(step)
        module = apply_step(module, step)
    return tuple(found)


LOOP = "0(): $0 = call i32 get() !1 $8 = icmp ult i32 $0, i32 4 br 1(i32 0) 1($1 i32): {} $2 = icmp ult i32 $1, i32 5 condbr $2, 2(), 3() 2(): {} $3 = add i32 $1, i32 1 br 1($3) 3(): {}ret i32 0"


class HoistTest(PassCase):

    def test_loop(self):
        rows = "$4 = add i32 $0, i32 3 $5 = mul i32 $4, $1 $6 = mul i32 $4, $4 call void put($5) !2 call void put($6) !3"
        text = LOOP.format("", rows, "")
        due = LOOP.format("", "$5 = mul i32 $4, $1 call void put($5) !2 call void put($6) !3", "").replace("i32 4 br 1", "i32 4 $4 = add i32 $0, i32 3 $6 = mul i32 $4, $4 br 1")
        certificate = self.leads(hoist, text, due)
        self.assertEqual(certificate, (("move", "main", 2, 0, 0, 2), ("move", "main", 2, 1, 0, 3)))
        module = self.module(text + " 9(): ret i32 0")
        for amount, count in ((0, 1), (1, 2), (2, 3), (1000, 3)):
            self.assertEqual(len(self.passed(hoist, module, amount=amount)[0]), count)

    def test_not_pure_or_no_preheader(self):
        self.leaves(hoist, LOOP.format("$4 = udiv i32 $0, i32 3 !4", "$5 = load i8 null !2 $6 = alloca 4", ""))
        self.leaves(hoist, LOOP.format("$4 = add i32 $0, $0", "", "").replace("br 1(i32 0)", "condbr $8, 1(i32 0), 1(i32 1)"))
        # Constants alone are defined nowhere.
        self.assertEqual(len(hoist(self.module(LOOP.format("$4 = add i32 i32 1, i32 1", "", "")), "main")), 1)

    def test_out_of_both_loops(self):
        text = ("0(): $0 = call i32 get() !1 br 1(i32 0) 1($1 i32): br 2(i32 0) 2($2 i32): $3 = add i32 $0, i32 1 $4 = add i32 $1, i32 1 $5 = add i32 $2, $4 $6 = add i32 $5, $3 $7 = icmp ult i32 $6, i32 50 condbr $7, 2($6), 3() "
                "3(): $8 = add i32 $1, i32 3 $9 = icmp ult i32 $8, i32 7 condbr $9, 1($8), 4() 4(): ret i32 0")
        certificate, changed = self.passed(hoist, self.module(text))
        self.assertEqual(certificate, (("move", "main", 2, 0, 1, 0), ("move", "main", 2, 0, 1, 1), ("move", "main", 1, 0, 0, 1)))

    def test_random(self):
        found = 0
        for seed in range(200):
            module = branchy(seed) if seed % 2 else random_module(seed)
            if seed % 4 > 1:
                module = check(module, plain(module, ""))[0]
            for function in module[1]:
                name = function[0]
                certificate, changed = self.passed(hoist, module, name)
                self.assertEqual(certificate, slow_hoist(module, name, 1000))
                self.assertEqual(hoist(module, name, amount=2), slow_hoist(module, name, 2))
                self.assertEqual(hoist(changed, name), ())
                found += certificate != ()
        self.assertGreater(found, 60)
        self.joined(hoist, range(15))


def conditions(function):
    """Return the (header, label) of the condbrs of simple loops on names from outside of them."""
    places = definition_places(function)
    found = []
    for loop in simple_loops(function):
        for label in loop[1]:
            end = find_block(function, label)[3]
            if end[0] == "condbr" and end[1][0] == "name" and places[end[1][1]][0] not in loop[1]:
                found.append((loop[0], label))
    return found


def slow_unswitch(module, name, amount):
    """Return the steps of unswitch, by the words of the document."""
    found = []

    def emit(*step):
        nonlocal module
        found.append(step)
        module = apply_step(module, step)

    def function():
        return find_function(module, name)

    def give(known, labels):
        pairs = []
        for label in labels:
            pairs.append((label, len(find_block(function(), label)[1])))
            emit("add_param", name, label, new_name(function()), kinds_of(function())[known], (("name", known),) * len(incoming(function(), label)))
        emit("use_params", name, tuple(pairs))
        return [find_block(function(), label)[1][-1][0] for label in labels]

    if len(reached(function())) < len(function()[3]):
        emit("prune", name)
    for _ in range(amount):
        if not conditions(function()):
            break
        header, label = conditions(function())[0]
        loop = [row for row in simple_loops(function()) if row[0] == header][0]
        ahead = preheader(graph_of(function()), loop)
        condition = find_block(function(), label)[3][1]
        places = definition_places(function())
        for known in sorted(own for own, place in places.items() if place[0] in loop[1] and any(at not in loop[1] for at, _, _ in uses(function(), own))):
            give(known, sorted(at for at, living in live_names(function()).items() if known in living and at not in loop[1]))
        params = give(condition[1], sorted(at for at, living in live_names(function()).items() if condition[1] in living and at in loop[1]))
        if find_block(function(), ahead)[3][0] == "switch":
            emit("fold_end", name, ahead)
        emit("fork", name, ahead, condition)
        own = [known for at in loop[1] for known in block_names(find_block(function(), at))]
        first, fresh = new_name(function()), new_label(function())
        emit("copy_region", name, header, loop[1], tuple(range(fresh, fresh + len(loop[1]))), tuple(range(first, first + len(own))), ((ahead, 1),))
        names = params + [first + own.index(param) for param in params]
        for slot in (0, 1):
            n, count = new_name(function()), len(find_block(function(), header)[1])
            emit("gather", name, new_label(function()), tuple(range(n, n + count)), ((ahead, slot),))
            names += range(n, n + count)
        for slot in (0, 1):
            emit("edge_value", name, ahead, slot)
        table = solve_values(module, function())
        kinds = kinds_of(function())
        single = [known for known in sorted(names) if kinds[known] != "ptr" and range_of(function(), table, ("name", known))[0] == range_of(function(), table, ("name", known))[1]]
        if single:
            emit("ranges", name, table, tuple(single))
        for at in sorted(block[0] for block in function()[3]):
            end = find_block(function(), at)[3]
            if end[0] == "condbr" and end[1][0] == "int":
                emit("fold_end", name, at)
        if len(reached(function())) < len(function()[3]):
            emit("prune", name)
    return tuple(found)


class UnswitchTest(PassCase):

    INNER = LOOP.replace("2(): {}", "2(): condbr $8, 4(), 5() 4(): call void put(i32 65) !5 br 6() 5(): call void put(i32 66) !6 br 6() 6():")

    def test_loop(self):
        text = self.INNER.format("", "")
        module = self.module(text)
        certificate, changed = self.passed(unswitch, module)
        operand = ("name", 8)
        self.assertEqual(certificate[:12], (
            ("add_param", "main", 1, 9, "i1", (operand, operand)), ("add_param", "main", 2, 10, "i1", (operand,)), ("add_param", "main", 4, 11, "i1", (operand,)),
            ("add_param", "main", 5, 12, "i1", (operand,)), ("add_param", "main", 6, 13, "i1", (operand, operand)), ("use_params", "main", ((1, 1), (2, 0), (4, 0), (5, 0), (6, 0))),
            ("fork", "main", 0, operand), ("copy_region", "main", 1, (1, 2, 4, 5, 6), (7, 8, 9, 10, 11), (14, 15, 16, 17, 18, 19, 20, 21), ((0, 1),)),
            ("gather", "main", 12, (22, 23), ((0, 0),)), ("gather", "main", 13, (24, 25), ((0, 1),)), ("edge_value", "main", 0, 0), ("edge_value", "main", 0, 1),
        ))
        # 12 and its copy 18 are never reached; 22 and 24 are the first value of the counter.
        self.assertEqual((self.words(certificate)[12], certificate[12][3]), ("ranges", (9, 10, 11, 13, 15, 17, 19, 20, 22, 23, 24, 25)))
        self.assertEqual(certificate[13:], (("fold_end", "main", 2), ("fold_end", "main", 8), ("prune", "main")))
        self.assertEqual(conditions(changed[1][0]), [])
        self.assertEqual(len(simple_loops(changed[1][0])), 2)
        self.assertEqual(unswitch(changed, "main"), ())

    def test_names_used_outside(self):
        text = self.INNER.format("$7 = mul i32 $1, i32 3", "$9 = add i32 $7, $1 ret $9 9(): ").replace("3(): $9", "3(): br 7() 7(): $9")
        certificate, changed = self.passed(unswitch, self.module(text))
        self.assertEqual(certificate[:7], (("prune", "main"), ("add_param", "main", 3, 10, "i32", (("name", 1),)), ("add_param", "main", 7, 11, "i32", (("name", 1),)), ("use_params", "main", ((3, 0), (7, 0))),
                                           ("add_param", "main", 3, 12, "i32", (("name", 7),)), ("add_param", "main", 7, 13, "i32", (("name", 7),)), ("use_params", "main", ((3, 1), (7, 1)))))
        self.assertEqual(conditions(changed[1][0]), [])
        self.assertEqual(certificate, slow_unswitch(self.module(text), "main", 4))

    def test_orders(self):
        # Names ascend, not labels; folded ends ascend by label, not by the order of the blocks; a switch on a name from outside stays.
        text = ("0(): $0 = call i32 get() !1 $8 = icmp ult i32 $0, i32 4 br 1(i32 0) 6(): $3 = add i32 $9, i32 1 br 1($3) 1($9 i32): $2 = icmp ult i32 $9, i32 5 condbr $2, 2(), 3() 2(): switch $0, 4: 4(), else 5() "
                "5(): condbr $8, 6(), 4() 4(): $7 = mul i32 $9, i32 3 condbr $8, 6(), 3() 3(): ret $9")
        certificate, changed = self.passed(unswitch, self.module(text))
        self.assertEqual(certificate, slow_unswitch(self.module(text), "main", 4))
        self.assertIn("fork", self.words(certificate))
        text = self.INNER.format("$7 = mul i32 $1, i32 3", "").replace("$1", "$10").replace("3(): ret i32 0", "3(): $11 = add i32 $7, $10 ret $11")
        certificate = self.passed(unswitch, self.module(text))[0]
        self.assertEqual([step[5][0] for step in certificate[:3:2]], [("name", 7), ("name", 10)])
        self.assertEqual(certificate, slow_unswitch(self.module(text), "main", 4))

    def test_preheader_with_switch(self):
        text = self.INNER.format("", "").replace("br 1(i32 0)", "switch $0, else 1(i32 0)")
        certificate = self.passed(unswitch, self.module(text))[0]
        self.assertEqual(self.words(certificate)[5:8], ["use_params", "fold_end", "fork"])
        self.assertEqual(certificate, slow_unswitch(self.module(text), "main", 4))

    def test_left_alone(self):
        self.leaves(unswitch, LOOP.format("", "", ""))
        # On a constant, by a switch, on a name of the loop, in a loop that is not simple.
        self.leaves(unswitch, self.INNER.format("", "").replace("condbr $8,", "condbr i1 1,"))
        self.leaves(unswitch, self.INNER.format("", "").replace("condbr $8, 4(), 5()", "switch $0, 4: 4(), else 5()"))
        self.leaves(unswitch, self.INNER.format("", "").replace("condbr $8,", "condbr $2,"))
        self.leaves(unswitch, self.INNER.format("", "").replace("br 1(i32 0)", "condbr $8, 1(i32 0), 1(i32 1)"))

    def test_amount(self):
        text = "0(): $0 = call i32 get() !1 $7 = icmp eq i32 $0, i32 2 $8 = icmp ult i32 $0, i32 4 br 1(i32 0) 1($1 i32): $2 = icmp ult i32 $1, i32 5 condbr $2, 2(), 3() 2(): condbr $8, 4(), 5() 4(): call void put(i32 65) !5 br 6() 5(): call void put(i32 66) !6 br 6() 6(): condbr $7, 7(), 8() 7(): call void put(i32 67) !7 br 8() 8(): $3 = add i32 $1, i32 1 br 1($3) 3(): ret i32 0"
        module = self.module(text + " 20(): ret i32 0")
        # The first two conditions of a loop and of its copy: one turn for the loop, and one for each of the two that it leaves.
        for amount, forks in ((0, 0), (1, 1), (2, 2), (3, 3), (4, 3)):
            certificate, changed = self.passed(unswitch, module, amount=amount)
            self.assertEqual(self.words(certificate).count("fork"), forks)
            self.assertEqual(certificate[0], ("prune", "main"))
            self.assertEqual(conditions(changed[1][0]) == [], forks == 3)
        self.assertEqual(unswitch(module, "main", amount=4), unswitch(module, "main"))

    def test_labels_at_the_bound(self):
        self.leaves(unswitch, self.INNER.format("", "").replace("6()", "999999998()"))
        self.leaves(unswitch, self.INNER.format("", "").replace("$3", "$999999998"))

    def test_random(self):
        found = 0
        for seed in range(250):
            module = branchy(seed) if seed % 2 else Shaper(random.Random(seed), statements=5, depth=3).module()
            module = check(module, plain(module, ""))[0]
            for function in module[1]:
                name = function[0]
                certificate, changed = self.passed(unswitch, module, name, amount=30)
                self.assertLess(self.words(certificate).count("fork"), 30)
                self.assertEqual(conditions(find_function(changed, name)), [])
                self.assertEqual(certificate, slow_unswitch(module, name, 30))
                one = self.passed(unswitch, module, name, amount=1)[0]
                self.assertEqual(one, certificate[:len(one)])
                self.assertEqual(self.words(one).count("fork"), min(1, self.words(certificate).count("fork")))
                found += self.words(certificate).count("fork")
        self.assertGreater(found, 10)
        self.joined(unswitch, range(15))


class InvariantBoundsTest(unittest.TestCase):

    def test_long_loop(self):
        rows = tuple((k + 2, "add", "i32", (("name", 0), ("int", "i32", k)), (), -1) for k in range(3000))
        blocks = ((0, (), ((0, "call", "i32", (), ("get",), 1),), ("br", (1, ()))), (1, (), rows + ((1, "icmp", "i32", (("name", 0), ("int", "i32", 1)), ("eq",), -1),), ("condbr", ("name", 1), (1, ()), (2, ()))), (2, (), (), ("ret", ("name", 0))))
        module = ((), (("main", "i32", False, blocks),))
        certificate = shallow(lambda: hoist(module, "main", amount=300))
        self.assertEqual(len(certificate), 300)
        self.assertEqual(shallow(lambda: check(module, certificate))[1], -1)


if __name__ == "__main__":
    unittest.main()
