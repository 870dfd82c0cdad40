"""Promises 7.15 (delete_load), 7.23 and 7.24: loads and stores, and when they are safe."""

import random
import unittest

from burnish.check import STEPS, apply_step
from burnish.effects import solve_effects
from burnish.memfacts import holds_memory, solve_memory
from burnish.memory import load_value, store_value
from burnish.memsteps import dead_store, delete_load, forward, insert_load, is_safe, same_store, unread_store
from burnish.run import Machine
from burnish.solve import solve_values
from burnish.steps import operand_value
from burnish.values import apart, sites_of
from shaped import Shaper
from stepping import StepCase
from test_bounds import shallow
from test_memfacts import Slow

HEAD = ("global g 1 2 3 4 5 6 7 8 global h 1 2 3 4 5 6 7 8 constant k 1 2 3 4 5 6 7 8 internal none i32 { 0(): ret i32 0 } internal frees i32 { 0(): kill null ret i32 0 } "
        "internal writes i32 { 0(): store i8 i8 1, @g !1 ret i32 0 } internal take i32 { 0($0 ptr): ret i32 0 }")
SIZES = {"i1": 1, "i8": 1, "i16": 2, "i32": 4, "i64": 8, "ptr": 8}
G = ("global", "g")


def name(n):
    return ("name", n)


def number(n, kind="i32"):
    return ("int", kind, n)


class MemoryCase(StepCase):

    head = HEAD

    def facts(self, text, of="main"):
        module = self.module(text)
        function = [function for function in module[1] if function[0] == of][0]
        values, effects = solve_values(module, function), solve_effects(module)
        return (values, effects, solve_memory(module, function, values, effects))

    def weaker(self, text):
        """Return tables that hold and say little: everything escapes."""
        module = self.module(text)
        main = [function for function in module[1] if function[0] == "main"][0]
        own = tuple(sorted(row[0] for block in main[3] for row in block[2] if row[1] == "alloca" or row[4] == ("malloc",)))
        return (((), own, ()), tuple((function[0], ("frees", "io", "loops", "reads", "traps", "writes")) for function in module[1]), ())

    def wrong(self, text, fact):
        """Return triples of tables of which one does not hold."""
        values, effects, memory = self.facts(text)
        shown = dict(values[2])
        return ((((), (), ((9999, ()),)), effects, memory), (values, effects[1:], memory), (values, tuple((n, ()) for n, _ in effects), memory), (values, effects, ((0, (fact,)),)),
                ((values[0], values[1], tuple(sorted(dict(shown, **{}).items())) + ((10 ** 8, ()),)), effects, memory))


class SafeTest(MemoryCase):

    def look(self, rows, op, kind, pointer, due, *, behind="ret i32 0", weak=False):
        """Look whether an access would be safe behind a block with these rows, where no facts are told."""
        text = "0(): " + rows + " br 1() 1(): " + behind
        facts = self.weaker(text) if weak else self.facts(text)[:2] + ((),)
        self.look_at(text, facts, 1, 0, op, kind, pointer, due)

    def here(self, rows, op, kind, pointer, due, *, k=None):
        """Look whether an access would be safe behind rows of a block, with the facts that they give."""
        text = "0(): " + rows + " ret i32 0"
        at = len(self.module(text)[1][-1][3][0][2]) if k is None else k
        self.look_at(text, self.facts(text), 0, at, op, kind, pointer, due)

    def look_at(self, text, facts, label, k, op, kind, pointer, due):
        module = self.module(text)
        told = is_safe(module, module[1][-1], facts, label, k, op, kind, pointer)
        self.assertIs(told, due, (text, op, kind, pointer))
        # What is told to be safe is accepted as a step, and nothing else.
        if op == "load":
            step = ("insert_load", "main", facts, label, k, (999, "load", kind, (pointer,), (), 77))
            self.assertIs(apply_step(module, step) is not None, due)

    def both(self, rows, kind, pointer, due, **more):
        for op in ("load", "store"):
            self.look(rows, op, kind, pointer, due, **more)

    def test_inside(self):
        rows = "$0 = alloca 8 $1 = gep $0, 4 $2 = gep $1, 3 $3 = gep $0, -1 $4 = gep $3, 2 $5 = gep $0, 0, i64 0 * 1 $6 = gep $5, 0"
        for pointer, kind, due in ((0, "i64", True), (0, "ptr", True), (1, "i32", True), (1, "i64", False), (2, "i8", True), (2, "i1", True), (2, "i16", False), (3, "i8", False), (4, "i32", True), (4, "i64", False),
                                   (5, "i8", False), (6, "i8", False)):
            self.both(rows, kind, name(pointer), due)
        self.both("$0 = alloca 4 $1 = select ptr i1 1, $0, $0", "i8", name(1), False)
        self.both("$0 = call ptr malloc(i64 8) !1", "i8", name(0), False)
        self.both("$0 = load ptr @g !1", "i8", name(0), False)
        for pointer in (G, ("global", "k"), ("null",)):
            self.both("", "i8", pointer, False)
        # Any number of geps.
        chain = "$0 = alloca 40 " + " ".join(f"${n} = gep ${n - 1}, 1" for n in range(1, 31))
        self.both(chain, "i64", name(30), True)
        self.both(chain, "i64", name(1), True)
        self.both(chain.replace("alloca 40", "alloca 37"), "i64", name(30), False)

    def test_kills(self):
        self.both("$0 = alloca 8 $1 = alloca 8", "i8", name(0), False, behind="kill $0 ret i32 0")
        self.both("$0 = alloca 8 $1 = alloca 8", "i8", name(1), True, behind="kill $0 ret i32 0")
        self.both("$0 = alloca 8", "i8", name(0), False, behind="$2 = call i32 get() !1 $3 = icmp eq i32 $2, i32 0 condbr $3, 2(), 3() 2(): $1 = gep $0, 4 kill $1 ret i32 0 3(): ret i32 0")
        # In a block that is not live, a pointer may lead outside.
        self.both("$0 = alloca 8", "i8", name(0), True, behind="ret i32 0 2(): $1 = gep $0, 4 kill $1 br 1()")
        self.both("$0 = alloca 8 $1 = load ptr @g !1 kill $1", "i8", name(0), True)
        # What escaped may be what a pointer from outside leads to.
        self.look("$0 = alloca 8 store ptr $0, @g !2 $1 = load ptr @g !1 kill $1", "store", "i8", name(0), False)
        self.look("$0 = alloca 8 store ptr $0, @g !2 kill @g", "store", "i8", name(0), True)
        self.look("$0 = alloca 8 store ptr $0, @g !2 $1 = call ptr malloc(i64 1) !3 kill $1", "store", "i8", name(0), True)

    def test_escaped(self):
        for rows, due in (("", True), ("$9 = call i32 none() !5", True), ("$9 = call i32 writes() !5", True), ("$9 = call i32 get() !5", True), ("call void free(null) !5", True), ("$9 = call i32 frees() !5", False)):
            text = "$0 = alloca 8 store ptr $0, @g !2 " + rows
            self.look(text, "store", "i8", name(0), due)
            # A load needs that it has not escaped.
            self.look(text, "load", "i8", name(0), False)
            self.look(text.replace("$0", "$5"), "load", "i8", name(5), False)
            self.both("$0 = alloca 8 " + rows, "i8", name(0), True)

    def test_kinds_of_what_is_stored(self):
        rows = "$0 = alloca 16 $1 = gep $0, 8 $2 = alloca 16 "
        for stored, kind, pointer, due in (("", "ptr", 0, True), ("", "i8", 1, True), ("store i8 i8 1, $1 !1", "i64", 0, True), ("store i8 i8 1, $1 !1", "ptr", 0, False), ("store i8 i8 1, $1 !1", "ptr", 1, False),
                                           ("store i8 i8 1, $2 !1", "ptr", 0, True), ("store ptr null, $1 !1", "ptr", 1, True), ("store ptr null, $1 !1", "ptr", 0, False), ("store ptr null, $1 !1", "i8", 0, False),
                                           ("store ptr null, $2 !1", "i8", 0, True), ("store ptr null, $1 !1 store ptr @g, $1 !2", "ptr", 1, True), ("store ptr null, $1 !1 store ptr @g, $0 !2", "ptr", 1, False)):
            self.look(rows, "load", kind, name(pointer), due, behind=stored + " ret i32 0")
            self.look(rows, "store", kind, name(pointer), True, behind=stored + " ret i32 0")
        # A store through a pointer that may lead to it counts.
        self.look(rows + "$3 = call i32 get() !1 $4 = icmp eq i32 $3, i32 0 $5 = select ptr $4, $1, $2 store ptr null, $5 !2", "load", "i8", name(0), False)

    def test_facts(self):
        # At each place a fact of the pointer and the kind makes a load safe, whatever it leads to.
        for pointer, shown in ((G, "@g"), (("global", "k"), "@k"), (name(0), "$0")):
            rows = "$0 = load ptr @h !1 $1 = load i32 " + shown + " !2"
            self.here(rows, "load", "i32", pointer, True)
            self.here(rows, "load", "i32", pointer, False, k=1)
            self.here(rows, "load", "i16", pointer, False)
            self.here(rows, "store", "i16", pointer, False)
        self.here("$1 = load i32 @g !2", "store", "i32", G, True)
        self.here("$1 = load i32 @k !2", "store", "i32", ("global", "k"), False)
        self.here("$0 = load ptr @h !1 $1 = load i32 $0 !2", "store", "i32", name(0), False)
        self.here("$0 = call ptr malloc(i64 8) !1 $1 = load i32 $0 !2", "store", "i32", name(0), True)
        self.here("$0 = call ptr malloc(i64 8) !1 store ptr $0, @g !3 $1 = load i32 $0 !2", "store", "i32", name(0), True)
        self.here("$0 = call ptr malloc(i64 8) !1 $1 = load i32 $0 !2 call void free($0) !3", "store", "i32", name(0), False)
        self.here("$0 = call i32 get() !1 $1 = icmp eq i32 $0, i32 0 $2 = select ptr $1, @k, @g $3 = load i8 $2 !2", "store", "i8", name(2), False)
        self.here("$0 = call i32 get() !1 $1 = icmp eq i32 $0, i32 0 $2 = select ptr $1, @h, @g $3 = load i8 $2 !2", "store", "i8", name(2), True)

    def test_facts_at_the_beginning_of_a_block(self):
        text = "0(): store i32 i32 1, @g !1 br 1() 1(): $0 = call i32 writes() !2 ret i32 0"
        module = self.module(text)
        facts = self.facts(text)
        safe = lambda told, k: is_safe(module, module[1][-1], told, 1, k, "load", "i32", G)
        self.assertIs(safe(facts, 0), True)
        self.assertIs(safe(facts, 1), False)
        self.assertIs(safe(facts[:2] + ((),), 0), False)

    def test_tables_that_say_less(self):
        self.both("$0 = alloca 8 $1 = call i32 none() !1", "i8", name(0), False, weak=True)
        self.look("$0 = alloca 8", "store", "i8", name(0), True, weak=True)
        self.look("$0 = alloca 8", "load", "i8", name(0), False, weak=True)

    def test_geps_that_lead_round(self):
        text = "0(): ret i32 0 1(): $0 = gep $1, 1 $1 = gep $0, 1 ret i32 0"
        module = self.module(text)
        for op in ("load", "store"):
            self.assertIs(shallow(lambda: is_safe(module, module[1][-1], self.facts(text), 1, 2, op, "i8", name(0))), False)

    def test_random_runs(self):
        """Where an access is told to be safe, it does not trap."""
        counts = {"load": 0, "store": 0}
        for seed in range(120):
            module = Shaper(random.Random(seed)).module()
            told = {}
            for function in module[1]:
                values, effects = solve_values(module, function), solve_effects(module)
                facts = (values, effects, solve_memory(module, function, values, effects))
                for block in function[3]:
                    for k, row in enumerate(block[2]):
                        if row[1] in counts:
                            told[function[0], block[0], k] = (row, is_safe(module, function, facts, block[0], k, row[1], row[2], row[3][-1]))
            machine = Machine(module, [65, 1, 0, 9])
            while machine.end == ("none",) and machine.steps < 400:
                state = machine.state
                frame = state[0][-1]
                row, safe = told.get(frame[:3], (None, False))
                if safe:
                    pointer = operand_value(module, frame, row[3][-1])
                    if row[1] == "load":
                        self.assertIsNotNone(load_value(state[1], pointer, row[2]))
                    else:
                        self.assertIsNotNone(store_value(state[1], pointer, row[2], operand_value(module, frame, row[3][0])))
                    counts[row[1]] += 1
                machine.go(fuel=1)
        self.assertGreater(min(counts.values()), 25)


class DeleteLoadTest(MemoryCase):

    TEXT = "0(): $0 = alloca 8 $1 = load i8 $0 !1 $2 = load i32 @g !2 $3 = load i32 @g !3 $4 = load i64 $0 !4 $5 = load i8 @g !5 ret $2"

    def step(self, *places, facts=None, of="main"):
        return ("delete_load", of, facts or self.facts(self.TEXT), places)

    def test_delete_load(self):
        self.done(self.TEXT, self.step((0, 1)), self.TEXT.replace("$1 = load i8 $0 !1 ", ""))
        self.done(self.TEXT, self.step((0, 1), (0, 3), (0, 4)), self.TEXT.replace("$1 = load i8 $0 !1 ", "").replace("$3 = load i32 @g !3 $4 = load i64 $0 !4 ", ""))

    def test_what_is_refused(self):
        self.refused(self.TEXT, *[self.step(*places) for places in ((), ((0, 4), (0, 1)), ((0, 1), (0, 1)), ((0, 2),), ((0, 5),), ((0, 1), (0, 5)), ((0, 0),), ((0, 6),), ((0, -5),), ((7, 1),), ((0, 1), (7, 1)))])
        self.refused(self.TEXT, self.step((0, 1), of="f"), *[self.step((0, 1), facts=facts) for facts in self.wrong(self.TEXT, (G, "i8", number(1, "i8")))])
        text = "0(): $0 = alloca 8 $1 = load ptr $0 !1 $2 = load ptr $0 !2 store ptr $2, @g !3 ret i32 0"
        self.refused(text, ("delete_load", "main", self.facts(text), ((0, 2),)))

    def test_one_of_several_is_used(self):
        text = self.TEXT.replace("ret $2", "ret $3")
        self.done(text, ("delete_load", "main", self.facts(text), ((0, 1), (0, 4))), text.replace("$1 = load i8 $0 !1 ", "").replace("$4 = load i64 $0 !4 ", ""))
        self.refused(text, ("delete_load", "main", self.facts(text), ((0, 1), (0, 3))))

    def test_weaker_tables(self):
        text = self.TEXT.replace("alloca 8 ", "alloca 8 kill null br 1() 1(): ")
        self.refused(text, ("delete_load", "main", self.weaker(text), ((1, 0),)))
        self.done(text, ("delete_load", "main", self.facts(text)[:2] + ((),), ((1, 0),)), text.replace("$1 = load i8 $0 !1 ", ""))
        self.done(self.TEXT, self.step((0, 3), facts=self.weaker(self.TEXT)), self.TEXT.replace("$3 = load i32 @g !3 ", ""))


class InsertLoadTest(MemoryCase):

    TEXT = "0(): $0 = alloca 8 br 1() 1(): $1 = gep $0, 4 $2 = call i32 get() !1 ret $2"

    def step(self, label, k, kind="i32", pointer=0, *, new=9, place=7, facts=None, of="main"):
        return ("insert_load", of, facts or self.facts(self.TEXT), label, k, (new, "load", kind, (name(pointer),), (), place))

    def test_insert_load(self):
        self.done(self.TEXT, self.step(0, 1), self.TEXT.replace("8 br", "8 $9 = load i32 $0 !7 br"))
        self.done(self.TEXT, self.step(1, 0, "ptr", place=0), self.TEXT.replace("1(): $1", "1(): $9 = load ptr $0 !0 $1"))
        self.done(self.TEXT, self.step(1, 1, "i16", 1, place=10 ** 9 - 1), self.TEXT.replace("$2 = ", "$9 = load i16 $1 !999999999 $2 = "))
        self.done(self.TEXT, self.step(1, 2), self.TEXT.replace("ret", "$9 = load i32 $0 !7 ret"))

    def test_what_is_refused(self):
        self.refused(self.TEXT, self.step(0, 0), self.step(0, 2), self.step(0, -1), self.step(1, 3), self.step(1, 0, "i32", 1), self.step(1, 1, "i64", 1), self.step(1, 2, "i8", 2), self.step(7, 0), self.step(0, 1, of="f"),
                     *[self.step(0, 1, new=new) for new in (0, 1, 2)], self.step(0, 1, pointer=77))
        self.refused(self.TEXT, ("insert_load", "main", self.facts(self.TEXT), 0, 1, (9, "add", "i8", (number(1, "i8"), number(1, "i8")), (), -1)),
                     ("insert_load", "main", self.facts(self.TEXT), 0, 1, (9, "gep", "ptr", (name(0),), (0,), -1)),
                     ("insert_load", "main", self.facts(self.TEXT), 0, 1, (9, "load", "i8", (("global", "g"),), (), 1)), ("insert_load", "main", self.facts(self.TEXT), 0, 1, (9, "load", "i8", (("global", "none"),), (), 1)),
                     *[self.step(0, 1, facts=facts) for facts in self.wrong(self.TEXT, (G, "i8", number(1, "i8")))], self.step(1, 0, facts=self.weaker(self.TEXT)))


class ForwardTest(MemoryCase):

    def step(self, text, *places, facts=None, of="main", word="forward"):
        return (word, of, facts or self.facts(text), places)

    def test_forward(self):
        text = "0(): store i32 i32 5, @g !1 $0 = load i32 @g !2 $1 = load i8 @g !3 $2 = load i32 @g !4 $3 = add i32 $0, $2 ret $3"
        self.done(text, self.step(text, (0, 1)), text.replace("$0 = load i32 @g !2 ", "").replace("$0", "i32 5"))
        self.done(text, self.step(text, (0, 1), (0, 3)), "0(): store i32 i32 5, @g !1 $1 = load i8 @g !3 $3 = add i32 i32 5, i32 5 ret $3")
        self.refused(text, self.step(text, (0, 2)), self.step(text, (0, 1), (0, 2)))

    def test_chains_of_loads(self):
        text = "0(): $0 = load i32 @g !1 $1 = load i32 @g !2 $2 = load i32 @g !3 $3 = add i32 $1, $2 call void put($0) !4 ret $3"
        self.done(text, self.step(text, (0, 1), (0, 2)), "0(): $0 = load i32 @g !1 $3 = add i32 $0, $0 call void put($0) !4 ret $3")
        self.done(text, self.step(text, (0, 2)), "0(): $0 = load i32 @g !1 $1 = load i32 @g !2 $3 = add i32 $1, $0 call void put($0) !4 ret $3")
        # The value of one load is another one that goes, too.
        text = "0(): $0 = alloca 8 $1 = alloca 8 store i32 i32 7, $0 !1 $2 = load i32 $0 !2 store i32 $2, $1 !3 $3 = load i32 $1 !4 ret $3"
        self.done(text, self.step(text, (0, 3), (0, 5)), "0(): $0 = alloca 8 $1 = alloca 8 store i32 i32 7, $0 !1 store i32 i32 7, $1 !3 ret i32 7")

    def test_the_least_value(self):
        # An integer comes before a name, and of names the least.
        text = "0(): $9 = call i32 get() !9 store i32 $9, @g !1 br 1($9, $9) 1($5 i32, $4 i32): $1 = load i32 @g !2 ret $1"
        self.done(text, self.step(text, (1, 0)), text.replace("$1 = load i32 @g !2 ret $1", "ret $4"))
        text = "0(): store i32 i32 8, @g !1 br 1(i32 8) 1($5 i32): $1 = load i32 @g !2 ret $1"
        self.done(text, self.step(text, (1, 0)), text.replace("$1 = load i32 @g !2 ret $1", "ret i32 8"))
        text = "0(): store ptr null, @g !1 br 1(null) 1($5 ptr): $1 = load ptr @g !2 store ptr $1, @h !3 ret i32 0"
        self.done(text, self.step(text, (1, 0)), text.replace("$1 = load ptr @g !2 ", "").replace("store ptr $1", "store ptr $5"))
        text = "0(): store ptr @h, @g !1 br 1(@h) 1($5 ptr): $1 = load ptr @g !2 store ptr $1, @h !3 ret i32 0"
        self.done(text, self.step(text, (1, 0)), text.replace("$1 = load ptr @g !2 ", "").replace("store ptr $1", "store ptr @h"))

    def test_loops(self):
        text = "0(): $0 = alloca 4 store i32 i32 0, $0 !1 br 1(i32 0) 1($1 i32): $2 = load i32 $0 !2 $3 = add i32 $2, i32 1 store i32 $3, $0 !3 $4 = icmp ult i32 $3, i32 9 condbr $4, 1($3), 2() 2(): ret $2"
        self.done(text, self.step(text, (1, 0)), text.replace("$2 = load i32 $0 !2 ", "").replace("$2", "$1").replace("ret $1", "ret $1"))

    def test_what_is_refused(self):
        text = "0(): store i32 i32 5, @g !1 $0 = load i32 @g !2 $1 = call i32 writes() !3 $2 = load i32 @g !4 ret $2"
        self.refused(text, *[self.step(text, *places) for places in ((), ((0, 3),), ((0, 1), (0, 1)), ((0, 3), (0, 1)), ((0, 0),), ((0, 2),), ((0, 4),), ((0, -4),), ((7, 0),))], self.step(text, (0, 1), of="f"),
                     *[self.step(text, (0, 1), facts=facts) for facts in self.wrong(text, (G, "i32", number(5)))])
        self.done(text, self.step(text, (0, 1), facts=self.weaker(text)), text.replace("$0 = load i32 @g !2 ", ""))
        kinds = "0(): store i32 i32 5, @g !1 $0 = load i16 @g !2 $1 = load i32 @h !3 ret i32 0"
        self.refused(kinds, self.step(kinds, (0, 1)), self.step(kinds, (0, 2)))

    def test_blocks_that_are_not_reached(self):
        # There loads may be known as each other.
        text = "0(): ret i32 0 1(): store i32 $1, @g !1 $0 = load i32 @g !2 store i32 $0, @h !3 $1 = load i32 @h !4 ret i32 0"
        module = self.module(text)
        step = self.step(text, (1, 1), (1, 3))
        self.assertIsNone(shallow(lambda: forward(module, step)))
        self.done(text, self.step(text, (1, 3)), text.replace(" $1 = load i32 @h !4", "").replace("store i32 $1", "store i32 $0"))


class SameStoreTest(MemoryCase):

    def step(self, text, *places, facts=None, of="main"):
        return ("same_store", of, facts or self.facts(text), places)

    def test_same_store(self):
        text = "0(): $0 = call i32 get() !9 store i32 $0, @g !1 store i32 $0, @g !2 store i32 i32 1, @h !3 store i32 $0, @g !4 $1 = load i32 @h !5 store i32 $1, @h !6 $2 = add i32 $0, $1 ret $2"
        self.done(text, self.step(text, (0, 2)), text.replace("store i32 $0, @g !2 ", ""))
        self.done(text, self.step(text, (0, 2), (0, 4), (0, 6)), text.replace("store i32 $0, @g !2 ", "").replace("store i32 $0, @g !4 ", "").replace("store i32 $1, @h !6 ", ""))
        self.refused(text, self.step(text, (0, 1)), self.step(text, (0, 3)), self.step(text, (0, 5)), self.step(text, (0, 2), (0, 3)))

    def test_pointers_and_zeros(self):
        text = "0(): $0 = alloca 8 store ptr null, $0 !1 store i32 i32 0, $0 !2 store ptr @g, $0 !3 store ptr @g, $0 !4 ret i32 0"
        # The object begins with bytes 0.
        self.done(text, self.step(text, (0, 1)), text.replace("store ptr null, $0 !1 ", ""))
        self.done(text, self.step(text, (0, 4)), text.replace("store ptr @g, $0 !4 ", ""))
        self.refused(text, self.step(text, (0, 2)), self.step(text, (0, 3)))
        fresh = "0(): $0 = alloca 8 store i32 i32 0, $0 !2 store i64 i64 0, $0 !3 ret i32 0"
        self.done(fresh, self.step(fresh, (0, 1)), fresh.replace("store i32 i32 0, $0 !2 ", ""))
        self.refused(fresh, self.step(fresh, (0, 2)))

    def test_bits_are_not_enough(self):
        text = "0(): $0 = load i1 @g !1 store i1 $0, @g !2 $1 = load i8 @g !3 $2 = zext i32 $1 ret $2"
        self.refused(text, self.step(text, (0, 1)))
        text = "0(): store i1 i1 1, @g !1 store i1 i1 1, @g !2 ret i32 0"
        self.refused(text, self.step(text, (0, 1)))
        text = "0(): $0 = load i8 @g !1 store i8 $0, @g !2 ret i32 0"
        self.done(text, self.step(text, (0, 1)), text.replace("store i8 $0, @g !2 ", ""))

    def test_stores_that_are_not_safe(self):
        text = "0(): $0 = load i8 @k !1 store i8 $0, @k !2 ret i32 0"
        self.refused(text, self.step(text, (0, 1)))
        text = "0(): $0 = load ptr @g !1 $1 = load i8 $0 !2 store i8 $1, $0 !3 ret i32 0"
        self.refused(text, self.step(text, (0, 2)))

    def test_what_is_refused(self):
        text = "0(): store i32 i32 1, @g !1 store i32 i32 1, @g !2 store i32 i32 1, @g !3 $0 = load i32 @g !4 ret $0"
        self.refused(text, *[self.step(text, *places) for places in ((), ((0, 2), (0, 1)), ((0, 1), (0, 1)), ((0, 3),), ((0, 4),), ((0, -3),), ((7, 0),))], self.step(text, (0, 1), of="f"),
                     *[self.step(text, (0, 1), facts=facts) for facts in self.wrong(text, (G, "i32", number(1)))])
        self.done(text, self.step(text, (0, 1), facts=self.weaker(text)), text.replace("store i32 i32 1, @g !2 ", ""))


class DeadStoreTest(MemoryCase):

    def step(self, text, k, j, *, label=0, facts=None, of="main"):
        return ("dead_store", of, facts or self.facts(text), label, k, j)

    def between(self, rows, due, head="$0 = alloca 16 $1 = gep $0, 4 $2 = alloca 4", pointer="$0"):
        text = f"0(): {head} store i32 i32 1, {pointer} !1 {rows} store i32 i32 2, {pointer} !2 $99 = load i32 {pointer} !3 ret $99"
        main = self.module(text)[1][-1]
        stores = [k for k, row in enumerate(main[3][0][2]) if row[1] == "store" and row[2] == "i32" and row[5] in (1, 2)]
        step = self.step(text, stores[0], stores[1])
        if due:
            self.done(text, step, text.replace(f"store i32 i32 1, {pointer} !1 ", ""))
        else:
            self.refused(text, step)

    def test_what_stands_between(self):
        for rows, due in (("", True), ("$9 = load i32 $0 !4", False), ("$9 = load i8 $0 !4", False), ("$9 = load i32 $1 !4", True), ("$9 = load i32 $2 !4", True), ("$9 = load i32 @g !4", True), ("store i32 i32 5, @g !4", True),
                          ("store i64 i64 5, $0 !4", True), ("store ptr @g, $0 !4", True), ("$9 = udiv i32 i32 1, i32 3 !4", True), ("$9 = alloca 4", True), ("kill null", False), ("$9 = call i32 get() !4", True),
                          ("$9 = call i32 writes() !4", True), ("$9 = call i32 frees() !4", True), ("call void exit(i32 3) !4", True), ("$9 = call ptr malloc(i64 1) !4", True), ("call void free(null) !4", True),
                          ("$9 = gep $0, 1 $10 = load i8 $9 !4", False), ("store i32 i32 5, @g !4 $9 = load i32 $1 !5 $10 = call i32 none() !6", True)):
            self.between(rows, due)

    def test_calls_where_others_may_look(self):
        escaped = "$0 = alloca 16 store ptr $0, @h !9"
        for rows in ("$9 = call i32 get() !4", "$9 = call i32 none() !4", "$9 = call ptr malloc(i64 1) !4", "call void exit(i32 3) !4"):
            self.between(rows, False, escaped)
        self.between("", True, escaped)
        self.between("", True, "$3 = load i32 @g !8", "@g")
        self.between("$9 = call i32 get() !4", False, "$3 = load i32 @g !8", "@g")
        # Objects of malloc that have not escaped.
        heap = "$0 = call ptr malloc(i64 8) !8 $3 = load i32 $0 !9"
        self.between("$9 = call i32 none() !4", True, heap)
        self.between("call void free($0) !4", True, heap)

    def test_the_first_one_must_be_safe(self):
        self.between("", False, "$3 = load i8 @g !8", "@g")
        self.between("", False, "", "@g")
        self.between("", False, "$3 = load i32 @k !8", "@k")
        self.between("", False, "$0 = load ptr @h !8 $3 = load i32 $0 !9", "$0")

    def test_what_is_refused(self):
        text = "0(): $0 = alloca 8 $1 = gep $0, 0 store i32 i32 1, $0 !1 store i16 i16 2, $0 !2 store i32 i32 3, $1 !3 store i32 i32 4, $0 !4 $2 = add i32 i32 1, i32 1 ret $2"
        self.done(text, self.step(text, 2, 5), text.replace("store i32 i32 1, $0 !1 ", ""))
        self.refused(text, *[self.step(text, k, j) for k, j in ((2, 3), (2, 4), (5, 2), (2, 2), (2, 6), (1, 5), (2, 7), (2, -3), (-6, 5), (3, 5))], self.step(text, 2, 5, label=7), self.step(text, 2, 5, of="f"),
                     *[self.step(text, 2, 5, facts=facts) for facts in self.wrong(text, (G, "i32", number(5)))])
        self.done(text, self.step(text, 2, 5, facts=self.weaker(text)), text.replace("store i32 i32 1, $0 !1 ", ""))
        text = "0(): $0 = alloca 8 store i32 i32 1, $0 !1 $1 = load i32 @g !2 $2 = load i32 $0 !3 store i32 i32 2, $0 !4 ret $2"
        self.refused(text, *[self.step(text, k, j) for k, j in ((1, 2), (1, 3), (2, 4), (3, 4))])

    def test_pointers_with_several_sites(self):
        head = "$0 = alloca 8 $1 = alloca 8 $2 = call i32 get() !9 $3 = icmp eq i32 $2, i32 0 $4 = select ptr $3, $0, {} $5 = load i32 $4 !8"
        self.between("$9 = call i32 none() !4", True, head.format("$1"), "$4")
        self.between("$9 = call i32 none() !4", False, head.format("@g"), "$4")
        self.between("$9 = load i32 @h !4", True, head.format("@g"), "$4")
        self.between("$9 = load i32 @g !4", False, head.format("@g"), "$4")


class UnreadStoreTest(MemoryCase):

    def step(self, text, *places, facts=None, of="main"):
        return ("unread_store", of, facts or self.facts(text), places)

    def test_unread_store(self):
        text = "0(): $0 = alloca 16 $1 = gep $0, 4 store i32 i32 1, $0 !1 store i32 i32 2, $1 !2 $2 = load i32 $0 !3 $3 = load i32 @g !4 ret $2"
        self.done(text, self.step(text, (0, 3)), text.replace("store i32 i32 2, $1 !2 ", ""))
        self.refused(text, self.step(text, (0, 2)), self.step(text, (0, 2), (0, 3)))
        text = text.replace("$2 = load i32 $0 !3", "$2 = add i32 i32 1, i32 2")
        self.done(text, self.step(text, (0, 2), (0, 3)), text.replace("store i32 i32 1, $0 !1 store i32 i32 2, $1 !2 ", ""))

    def test_bytes_side_by_side(self):
        head = "0(): $0 = alloca 16 $1 = gep $0, 4 $2 = gep $1, 4 "
        for stored, loaded, due in (("i32 i32 1, $0", "i32 $1", True), ("i64 i64 1, $0", "i32 $1", False), ("i64 i64 1, $0", "i32 $2", True), ("i32 i32 1, $2", "i64 $1", False), ("i32 i32 1, $2", "i64 $0", True),
                                    ("i8 i8 1, $1", "i64 $0", False), ("i8 i8 1, $2", "i64 $0", True), ("i8 i8 1, $0", "i8 $0", False), ("i1 i1 1, $1", "i32 $0", True)):
            text = head + f"store {stored} !1 br 1() 1(): $9 = load {loaded} !2 ret i32 0"
            if due:
                self.done(text, self.step(text, (0, 3)), text.replace(f"store {stored} !1 ", ""))
            else:
                self.refused(text, self.step(text, (0, 3)))

    def test_other_pointers(self):
        head = "0(): $0 = alloca 8 $1 = alloca 8 $2 = call i32 get() !9 $3 = icmp eq i32 $2, i32 0 $4 = select ptr $3, $0, $1 $5 = gep $4, 4 $6 = gep $0, 0, i64 0 * 1 $8 = gep $0, 0 "
        for stored, loaded, due in (("$0", "$4", False), ("$1", "$4", False), ("$1", "$0", True), ("$0", "$6", False), ("$8", "@g", True), ("$8", "$1", True), ("$0", "$5", False)):
            text = head + f"store i32 i32 1, {stored} !1 $9 = load i32 {loaded} !2 ret i32 0"
            if due:
                self.done(text, self.step(text, (0, 8)), text.replace(f"store i32 i32 1, {stored} !1 ", ""))
            else:
                self.refused(text, self.step(text, (0, 8)))
        # A common operand that is no alloca does not suffice.
        text = head + "$9 = load i32 $4 !3 store i32 i32 1, $4 !1 $10 = load i32 $5 !2 ret i32 0"
        self.refused(text, self.step(text, (0, 9)))
        text = head + "$9 = load i32 $4 !3 store i32 i32 1, $4 !1 ret i32 0"
        self.refused(text, self.step(text, (0, 9)))
        # A pointer that may be the one or the other alloca, where one of them is loaded.
        text = head + "store i32 i32 5, $4 !3 store i32 i32 1, $4 !1 $9 = load i32 {} !2 ret i32 0"
        self.refused(text.format("$0"), self.step(text.format("$0"), (0, 9)))
        self.done(text.format("@g"), self.step(text.format("@g"), (0, 9)), text.format("@g").replace("store i32 i32 1, $4 !1 ", ""))

    def test_what_may_be_looked_at_from_outside(self):
        for row in ("store ptr $0, @h !5", "$9 = call i32 take($0) !5"):
            text = f"0(): $0 = alloca 8 store i32 i32 1, $0 !1 {row} ret i32 0"
            self.refused(text, self.step(text, (0, 1)))
        text = "0(): $0 = alloca 8 store i32 i32 1, $0 !1 $9 = load ptr @h !2 $8 = load i32 $9 !3 ret i32 0"
        self.done(text, self.step(text, (0, 1)), text.replace("store i32 i32 1, $0 !1 ", ""))
        text = "0(): $0 = call ptr malloc(i64 8) !2 $1 = load i32 $0 !3 store i32 i32 1, $0 !1 ret i32 0"
        self.refused(text, self.step(text, (0, 2)))
        text = "0(): $1 = load i32 @g !3 store i32 i32 1, @g !1 ret i32 0"
        self.refused(text, self.step(text, (0, 1)))

    def test_what_is_refused(self):
        text = "0(): $0 = alloca 4 $1 = alloca 4 store i32 i32 1, $0 !1 kill $1 store i32 i32 1, $1 !2 store i64 i64 1, $1 !3 ret i32 0"
        self.refused(text, *[self.step(text, *places) for places in ((), ((0, 4),), ((0, 5),), ((0, 2), (0, 4)), ((0, 2), (0, 2)), ((0, 0),), ((0, 3),), ((0, 6),), ((0, -5),), ((7, 0),))], self.step(text, (0, 2), of="f"),
                     *[self.step(text, (0, 2), facts=facts) for facts in self.wrong(text, (G, "i32", number(5)))], self.step(text, (0, 2), facts=self.weaker(text)))
        self.done(text, self.step(text, (0, 2)), text.replace("store i32 i32 1, $0 !1 ", ""))


class RandomTest(MemoryCase):

    def test_places_are_looked_at_as_told(self):
        """Compare with the words of the points, for single places of random functions."""
        counts = {}
        for seed in range(150):
            module = Shaper(random.Random(seed), statements=4).module()
            for function in module[1]:
                values, effects = solve_values(module, function), solve_effects(module)
                facts = (values, effects, solve_memory(module, function, values, effects))
                self.assertTrue(holds_memory(module, function, *facts))
                slow = Slow(module, function, values, effects)
                starts = dict(facts[2])
                for block in function[3]:
                    at = set(starts.get(block[0], ()))
                    for k, row in enumerate(block[2]):
                        if row[1] in ("load", "store"):
                            self.look_at(module, function, facts, block[0], k, row, at, counts)
                        at = slow.through(at, row)
        self.assertGreater(min(counts.values()), 4)

    def look_at(self, module, function, facts, label, k, row, at, counts):
        op, kind, pointer = row[1], row[2], row[3][-1]
        safe = is_safe(module, function, facts, label, k, op, kind, pointer)
        known = sorted(v for p, its, v in at if (p, its) == (pointer, kind))
        if op == "load":
            due = {"forward": bool(known), "delete_load": safe and not any(name(row[0]) in other[3] for b in function[3] for other in b[2])
                   and not any(name(row[0]) in ends(b) for b in function[3])}
        else:
            due = {"same_store": safe and kind != "i1" and row[3][0] in known, "unread_store": safe and self.is_unread(module, function, facts[0], kind, pointer)}
        for word, told in due.items():
            step = (word, function[0], facts, ((label, k),))
            changed = STEPS[word](module, step)
            self.assertIs(changed is not None, told, (word, row))
            counts[word, told] = counts.get((word, told), 0) + 1
            if changed is not None:
                self.assertEqual(apply_step(module, step), changed)

    def is_unread(self, module, function, values, kind, pointer):
        allocas = {row[0]: row for block in function[3] for row in block[2] if row[1] == "alloca"}
        rows = {row[0]: row for block in function[3] for row in block[2]}
        sites = sites_of(function, values, pointer)
        if not all(site[0] == "at" and site[1] in allocas and site[1] not in values[1] for site in sites):
            return False
        for block in function[3]:
            for row in block[2]:
                if row[1] == "load" and set(sites_of(function, values, row[3][0])) & set(sites):
                    (a, n), (b, m) = base(rows, pointer), base(rows, row[3][0])
                    if a not in allocas or a != b or not (n + SIZES[kind] <= m or m + SIZES[row[2]] <= n):
                        return False
                    self.assertTrue(apart(function, values, pointer, SIZES[kind], row[3][0], SIZES[row[2]]))
        return True


def ends(block):
    from burnish.records import end_operands
    return end_operands(block[3])


def base(rows, pointer):
    """Return the name that geps without indices lead to, and the offset."""
    offset = 0
    while pointer[0] == "name" and rows.get(pointer[1], ("", ""))[1] == "gep" and len(rows[pointer[1]][3]) == 1:
        offset += rows[pointer[1]][4][0]
        pointer = rows[pointer[1]][3][0]
    return (pointer[1] if pointer[0] == "name" else None), offset


class BoundsTest(unittest.TestCase):

    def test_greatest_function(self):
        many = 3990
        rows = ((0, "alloca", "ptr", (), (4096,), -1),)
        rows += tuple((k, "gep", "ptr", (name(k - 1),), (1 if k % 2 else -1,), -1) for k in range(1, many))
        stores = tuple((-1, "store", "i8", (number(k % 256, "i8"), name(k)), (), k) for k in range(many))
        loads = tuple((5000 + k, "load", "i8", (name(k),), (), k) for k in range(many))
        again = tuple((10000 + k, "load", "i8", (name(k),), (), k) for k in range(many))
        body = rows + stores + loads + again + stores
        function = ("main", "i32", False, ((0, (), body, ("ret", number(0))),))
        module = ((), (function,))
        values, effects = solve_values(module, function), solve_effects(module)
        facts = (values, effects, solve_memory(module, function, values, effects))
        places = lambda turn: tuple((0, turn * many + k) for k in range(many))
        self.assertIsNotNone(shallow(lambda: delete_load(module, ("delete_load", "main", facts, places(2)))))
        changed = shallow(lambda: forward(module, ("forward", "main", facts, places(3))))
        self.assertEqual(len(changed[1][0][3][0][2]), 4 * many)
        self.assertIsNone(shallow(lambda: unread_store(module, ("unread_store", "main", facts, places(1)))))
        self.assertIsNone(shallow(lambda: same_store(module, ("same_store", "main", facts, places(1)))))
        self.assertIsNone(shallow(lambda: dead_store(module, ("dead_store", "main", facts, 0, many, 4 * many))))
        self.assertIsNotNone(shallow(lambda: insert_load(module, ("insert_load", "main", facts, 0, 9000, (20000, "load", "i8", (name(many - 1),), (), 1)))))
        left = ((), (function[:3] + (((0, (), rows + stores, ("ret", number(0))),),),))
        values = solve_values(left, left[1][0])
        told = (values, solve_effects(left), ())
        self.assertIsNotNone(shallow(lambda: unread_store(left, ("unread_store", "main", told, places(1)))))


if __name__ == "__main__":
    unittest.main()
