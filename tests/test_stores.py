"""Promises 9.5 to 9.7: forward_loads, dead_stores and globals_pass."""

import unittest

from burnish.check import STEPS, apply_step, check
from burnish.edits import uses
from burnish.effects import solve_effects
from burnish.memfacts import solve_memory
from burnish.objects import globals_pass
from burnish.records import find_function
from burnish.scopes import reached
from burnish.solve import solve_values
from burnish.stores import dead_stores, forward_loads
from passing import PassCase, random_module
from test_bounds import shallow

GLOBALS = "global g 1 2 3 4 5 6 7 8 constant h 7 0 0 0 1 global w 0 0 0 0 "


def solved(module, name):
    """Return the three solved tables of a function."""
    function = find_function(module, name)
    values, effects = solve_values(module, function), solve_effects(module)
    return (values, effects, solve_memory(module, function, values, effects))


def places_of(module, name, op, word):
    """Return the places of an op, block by block, of which the step alone is done."""
    facts = solved(module, name)
    found = []
    for label, _, body, _ in find_function(module, name)[3]:
        for k, row in enumerate(body):
            if row[1] == op and STEPS[word](module, (word, name, facts, ((label, k),))) is not None:
                found.append((label, k))
    return found


def pruned(module, name):
    """Return the steps that a pass of the part begins with, and the module behind them."""
    function = find_function(module, name)
    if len(reached(function)) == len(function[3]):
        return (), module
    return (("prune", name),), apply_step(module, ("prune", name))


class ForwardTest(PassCase):

    head = GLOBALS

    def test_loads(self):
        text = "0(): $0 = call i32 get() !1 store i32 $0, @g !2 $1 = load i32 @g !3 $2 = load i16 @g !4 $3 = load i16 @g !5 $4 = zext i32 $3 $5 = zext i32 $2 $6 = add i32 $1, $4 $7 = add i32 $6, $5 ret $7"
        certificate = self.leads(forward_loads, text, text.replace("$1 = load i32 @g !3 ", "").replace("$3 = load i16 @g !5 ", "").replace("zext i32 $3", "zext i32 $2").replace("add i32 $1", "add i32 $0"))
        self.assertEqual(certificate, (("forward", "main", solved(self.module(text), "main"), ((0, 2), (0, 4))),))
        # A call, a store to what may be the same place, a kill: nothing is known behind them.
        for between in ("store i8 i8 1, $8 !9", "call void f() !9"):
            self.head = GLOBALS + "internal f void { 0(): store i8 i8 1, @g !1 ret } "
            self.leaves(forward_loads, "0(): $8 = load ptr @w !8 store i32 i32 5, @g !2 " + between + " $1 = load i32 @g !3 ret $1")
        self.head = GLOBALS

    def test_stores(self):
        text = "0(): $0 = load i32 @g !1 store i32 $0, @g !2 $1 = load i8 @w !3 store i8 $1, @w !4 store i8 $1, @w !5 store i32 i32 3, @g !6 store i32 i32 3, @g !7 ret i32 0"
        certificate = self.leads(forward_loads, text, "0(): $0 = load i32 @g !1 $1 = load i8 @w !3 store i32 i32 3, @g !6 ret i32 0")
        self.assertEqual(certificate, (("same_store", "main", solved(self.module(text), "main"), ((0, 1), (0, 3), (0, 4), (0, 6))),))
        # An i1 stays, and what is stored at a pointer that may lead anywhere.
        self.leaves(forward_loads, "0(): $0 = load i1 @g !1 store i1 $0, @g !2 ret i32 0")
        self.leaves(forward_loads, "internal f void { 0($0 ptr): $1 = load i8 $0 !1 store i8 $1, $0 !2 ret }", "f")

    def test_both_steps(self):
        # What is stored back is a load that was forwarded.
        text = "0(): $0 = call i32 get() !1 store i32 $0, @g !2 $1 = load i32 @g !3 store i32 $1, @g !4 ret i32 0"
        certificate = self.leads(forward_loads, text, "0(): $0 = call i32 get() !1 store i32 $0, @g !2 ret i32 0")
        self.assertEqual(self.words(certificate), ["forward", "same_store"])
        changed = apply_step(self.module(text), certificate[0])
        self.assertEqual(certificate[1], ("same_store", "main", solved(changed, "main"), ((0, 2),)))

    def test_joins_and_amount(self):
        text = ("0(): $0 = call i32 get() !1 $1 = icmp eq i32 $0, i32 0 store i32 i32 4, @w !2 condbr $1, 1(i32 5), 2() 1($2 i32): store i32 $2, @g !3 br 3($2) 2(): store i32 i32 6, @g !4 br 3(i32 6) "
                "3($3 i32): $4 = load i32 @g !5 $5 = load i32 @w !6 $6 = load i32 @w !7 store i32 i32 4, @w !8 $7 = add i32 $4, $5 $8 = add i32 $6, $7 ret $8 9(): ret i32 0")
        module = self.module(text)
        steps = self.passed(forward_loads, module)[0]
        self.assertEqual(self.words(steps), ["prune", "forward", "same_store"])
        self.assertEqual((steps[1][3], steps[2][3]), (((3, 0), (3, 1), (3, 2)), ((3, 0),)))
        for amount, due in ((1, ((3, 0),)), (2, ((3, 0), (3, 1))), (3, steps[1][3]), (7, steps[1][3])):
            certificate = self.passed(forward_loads, module, amount=amount)[0]
            self.assertEqual(certificate[1][3], due)
            self.assertEqual(self.words(certificate), self.words(steps))
        self.assertEqual(self.words(self.passed(forward_loads, module, amount=0)[0]), ["prune", "same_store"])
        self.assertIn("ret i32 0", text)
        self.leaves(forward_loads, "0(): $0 = load i32 @g !1 ret $0")

    def test_the_first_ones_in_the_order_of_blocks(self):
        text = "0(): store i32 i32 5, @g !1 br 7() 7(): $1 = load i32 @g !2 br 3() 3(): $2 = load i32 @g !3 $3 = add i32 $1, $2 ret $3"
        self.assertEqual(forward_loads(self.module(text), "main", amount=1)[0][3], ((7, 0),))
        self.assertEqual(forward_loads(self.module(text), "main")[0][3], ((3, 0), (7, 0)))

    def test_random(self):
        def look(module, name, certificate, changed):
            due, module = pruned(module, name)
            loads = places_of(module, name, "load", "forward")
            if loads:
                due += (("forward", name, solved(module, name), tuple(sorted(loads))),)
                module = apply_step(module, due[-1])
            stores = places_of(module, name, "store", "same_store")
            if stores:
                due += (("same_store", name, solved(module, name), tuple(sorted(stores))),)
            self.assertEqual(certificate, due)
        self.assertGreater(self.over_random(forward_loads, range(100), look), 40)
        self.joined(forward_loads, range(15))


class DeadStoresTest(PassCase):

    head = GLOBALS

    def test_two_stores(self):
        text = "0(): $0 = call i32 get() !1 store i32 $0, @g !2 {} store i32 i32 5, @g !3 {} ret i32 0"
        known = "0(): $0 = call i32 get() !1 $9 = load i32 @g !4 store i32 $0, @g !2 {} store i32 i32 5, @g !3 {} ret i32 0"
        # The first one is safe only where a fact is known of the place.
        self.leaves(dead_stores, text.format("", ""))
        certificate = self.leads(dead_stores, known.format("", ""), known.format("", "").replace("store i32 $0, @g !2 ", ""))
        self.assertEqual(certificate, (("dead_store", "main", solved(self.module(known.format("", "")), "main"), 0, 2, 3),))
        for between in ("store i8 i8 1, @w !8", "$8 = load i8 @w !8", "$8 = add i32 $0, i32 1", "store i8 i8 1, @g !8"):
            self.assertEqual(self.words(self.passed(dead_stores, self.module(known.format(between, "")))[0]), ["dead_store"], between)
        for between in ("$8 = load i8 @g !8", "$8 = call i32 get() !8", "kill @g", "call void put($0) !8", "$8 = alloca 1 kill $8"):
            self.leaves(dead_stores, known.format(between, ""))
        # The stores are of one kind at one pointer.
        self.leaves(dead_stores, known.replace("store i32 i32 5", "store i16 i16 5").format("", ""))
        self.leaves(dead_stores, known.replace("i32 5, @g", "i32 5, @w").format("", ""))

    def test_least_later_store(self):
        text = "0(): $9 = load i32 @g !4 store i32 i32 1, @g !1 store i32 i32 2, @g !2 store i32 i32 3, @g !3 ret i32 0"
        certificate = self.leads(dead_stores, text, text.replace("store i32 i32 1, @g !1 store i32 i32 2, @g !2 ", ""))
        self.assertEqual([step[3:] for step in certificate], [(0, 1, 2), (0, 1, 2)])
        module = self.module(text + " 7(): ret i32 1")
        for amount, words in ((0, ["prune"]), (1, ["prune", "dead_store"]), (2, ["prune", "dead_store", "dead_store"]), (9, ["prune", "dead_store", "dead_store"])):
            self.assertEqual(self.words(self.passed(dead_stores, module, amount=amount)[0]), words)

    def test_unread_stores(self):
        text = "0(): $0 = alloca 8 store i32 i32 1, $0 !1 $1 = gep $0, 4 store i32 i32 2, $1 !2 {} ret i32 0"
        certificate = self.leads(dead_stores, text.format(""), "0(): $0 = alloca 8 $1 = gep $0, 4 ret i32 0")
        self.assertEqual(certificate, (("unread_store", "main", solved(self.module(text.format("")), "main"), ((0, 1), (0, 3))),))
        # Bytes that are read stay, the others go.
        self.leads(dead_stores, text.format("$2 = load i32 $1 !3"), text.format("$2 = load i32 $1 !3").replace("store i32 i32 1, $0 !1 ", ""))
        self.leads(dead_stores, text.format("$2 = load i16 $0 !3"), text.format("$2 = load i16 $0 !3").replace("store i32 i32 2, $1 !2 ", ""))
        # Through an index, or where the object escapes, all may be read.
        self.leaves(dead_stores, text.format("$3 = call i32 get() !4 $4 = zext i64 $3 $5 = gep $0, 0, $4 * 1 $2 = load i8 $5 !3"))
        self.leaves(dead_stores, text.format("store ptr $0, @g !3"))

    def test_loop(self):
        text = "0(): $0 = alloca 4 br 1(i32 0) 1($1 i32): {} store i32 $1, $0 !1 $2 = add i32 $1, i32 1 $3 = icmp ult i32 $2, i32 5 condbr $3, 1($2), 2() 2(): ret i32 0"
        self.leads(dead_stores, text.format(""), text.format("").replace("store i32 $1, $0 !1 ", ""))
        # It is read in the next turn.
        self.leaves(dead_stores, text.format("$4 = load i32 $0 !2 call void put($4) !3"))

    def test_random(self):
        def look(module, name, certificate, changed):
            due, module = pruned(module, name)
            while len(due) < 30:
                unread = places_of(module, name, "store", "unread_store")
                step = None
                if unread:
                    step = ("unread_store", name, solved(module, name), tuple(sorted(unread)))
                else:
                    facts = solved(module, name)
                    for label, _, body, _ in find_function(module, name)[3]:
                        for k in range(len(body)):
                            for j in range(k + 1, len(body)):
                                told = ("dead_store", name, facts, label, k, j)
                                if step is None and body[k][1] == body[j][1] == "store" and apply_step(module, told) is not None:
                                    step = told
                if step is None:
                    break
                due += (step,)
                module = apply_step(module, step)
            self.assertEqual(certificate, due)
            self.assertEqual(dead_stores(changed, name), ())
        self.assertGreater(self.over_random(dead_stores, range(100), look), 40)
        self.joined(dead_stores, range(15))


class GlobalsTest(PassCase):

    head = ""

    def test_all_parts(self):
        text = ("global a 1 2 3 4 global b 9 constant c 5 0 0 0 1 2 3 4 global d 1 global e 1 constant f 3 "
                "internal first i32 { 0(): $0 = load i32 @a !1 $1 = gep @c, 4 $2 = load i16 $1 !2 $3 = zext i32 $2 $4 = add i32 $0, $3 ret $4 } "
                "export main i32 { 0(): store i8 i8 1, @b !1 $0 = load i8 @b !2 $1 = gep @a, 1 $2 = gep $1, 1 $3 = load i8 $2 !3 $5 = load i8 @d !5 $6 = zext i32 $5 $7 = gep @c, 8 $8 = load i8 $7 !6 $9 = gep @c, 1 ret $6 }")
        due = ("constant a 1 2 3 4 global b 9 constant c 5 0 0 0 1 2 3 4 "
               "internal first i32 { 0(): $3 = zext i32 i16 513 $4 = add i32 i32 67305985, $3 ret $4 } "
               "export main i32 { 0(): store i8 i8 1, @b !1 $0 = load i8 @b !2 $1 = gep @a, 1 $2 = gep $1, 1 $3 = load i8 $2 !3 $6 = zext i32 i8 1 $7 = gep @c, 8 $8 = load i8 $7 !6 ret $6 }")
        module = self.module(text)
        certificate, changed = self.passed(globals_pass, module, "")
        self.assertEqual(changed, self.module(due))
        steps = (("fix_global", "a"), ("fix_global", "d"), ("fix_global", "e"), ("constant_load", "first", 0, 0), ("constant_load", "first", 0, 1), ("constant_load", "main", 0, 5),
                 ("drop_names", "first", (1,)), ("drop_names", "main", (9,)), ("drop_global", "d"), ("drop_global", "e"), ("drop_global", "f"))
        self.assertEqual(certificate, steps)
        # The name is not used, and the amount counts steps.
        self.assertEqual(globals_pass(module, "first"), steps)
        for amount in range(len(steps) + 2):
            self.assertEqual(self.passed(globals_pass, module, "", amount=amount)[0], steps[:amount])

    def test_globals_that_are_not_only_loaded(self):
        for used in ("store i8 i8 1, @g !1", "$0 = gep @g, 1 store i8 i8 1, $0 !1", "store ptr @g, @h !1", "call void free(@g) !1", "$0 = icmp eq ptr @g, null", "kill @g", "$0 = select ptr i1 1, @g, null", "br 1(@g) 1($1 ptr):"):
            text = "global g 1 2 3 global h 0 0 0 0 0 0 0 0 export main i32 { 0(): store ptr null, @h !9 $8 = load ptr @h !8 " + used + " ret i32 0 }"
            self.leaves(globals_pass, text, "")
        # Fixed through geps of geps, with an index, too.
        text = "global g 1 2 3 export main i32 { 0(): $0 = call i32 get() !1 $1 = zext i64 $0 $2 = gep @g, 0, $1 * 1 $3 = gep $2, 1 $4 = load i8 $3 !2 $5 = zext i32 $4 ret $5 }"
        self.assertEqual(self.passed(globals_pass, self.module(text), "")[0], (("fix_global", "g"),))

    def test_unused_geps(self):
        text = "constant g 1 2 3 export main i32 { 0($9 i32): $0 = gep @g, 1 $1 = gep $0, 1 $2 = gep @g, 2 $3 = gep @g, 1 $4 = icmp eq ptr $3, null ret i32 0 }".replace("$9 i32", "")
        self.assertEqual(self.passed(globals_pass, self.module(text), "")[0], (("drop_names", "main", (0, 1, 2)),))
        # A gep that a pointer compares is used, also if nothing uses the result.
        text = "constant g 1 2 3 export main i32 { 0(): $0 = gep @g, 1 $1 = gep $0, 1 $4 = icmp eq ptr $0, null ret i32 0 }"
        self.assertEqual(self.passed(globals_pass, self.module(text), "")[0], (("drop_names", "main", (1,)),))

    def test_random(self):
        steps = 0
        for seed in range(120):
            module = random_module(seed)
            certificate, changed = self.passed(globals_pass, module, "")
            steps += len(certificate)
            order = ["fix_global", "constant_load", "drop_names", "drop_global"]
            words = self.words(certificate)
            self.assertEqual(words, sorted(words, key=order.index))
            for record in changed[0]:
                self.assertIsNone(apply_step(changed, ("drop_global", record[0])))
                self.assertTrue(record[1] or apply_step(changed, ("fix_global", record[0])) is None)
            for function in changed[1]:
                for label, _, body, _ in function[3]:
                    for k, row in enumerate(body):
                        self.assertIsNone(apply_step(changed, ("constant_load", function[0], label, k)))
                        self.assertFalse(row[1] == "gep" and not uses(function, row[0]))
            self.assertEqual(globals_pass(changed, ""), ())
        self.assertGreater(steps, 200)

    def test_many(self):
        rows = tuple((k, "load", "i8", (("global", f"g{k % 64}"),), (), 1) for k in range(3000))
        module = (tuple((f"g{k}", True, (k,)) for k in range(64)), (("main", "i32", False, ((0, (), rows, ("ret", ("int", "i32", 0))),)),))
        certificate = shallow(lambda: globals_pass(module, "", amount=300))
        self.assertEqual(len(certificate), 300)
        self.assertEqual(shallow(lambda: check(module, certificate))[1], -1)


if __name__ == "__main__":
    unittest.main()
