"""Promises 9.1 to 9.4: plain and uniform allocas, drop_kills, split and promote."""

import random
import unittest

from burnish.check import apply_step, check
from burnish.dominators import dominates, immediate_dominators, iterated_frontier
from burnish.edits import incoming
from burnish.effects import solve_effects
from burnish.faults import faults
from burnish.graph import definition_places, graph_of
from burnish.objects import parts, split
from burnish.promote import drop_kills, joins, promote, uniform_allocas
from burnish.records import edges, find_block, find_function, new_name, put_function
from burnish.scopes import reached
from burnish.words import size
from passing import PassCase, random_module
from test_bounds import shallow

EXAMPLE = ("0(): $0 = alloca 4 store i32 i32 5, $0 !1 $1 = call i32 get() !2 $2 = icmp eq i32 $1, i32 0 condbr $2, 1(), 2() "
           "1(): store i32 i32 6, $0 !3 br 2() 2(): $3 = load i32 $0 !4 ret $3")


def allocas(function):
    return [row for block in function[3] for row in block[2] if row[1] == "alloca"]


def pointer_index(row):
    return {"load": 0, "kill": 0, "store": 1, "gep": 0}.get(row[1])


def users(function, name):
    """Return the list of (instruction or None, index, label, position) of the uses of a name."""
    found = []
    for label, _, body, end in function[3]:
        for k, row in enumerate(body):
            found.extend((row, index, label, k) for index, operand in enumerate(row[3]) if operand == ("name", name))
        operands = [end[1]] if end[0] in ("condbr", "switch", "ret") else []
        operands += [operand for _, passed in edges(end) for operand in passed]
        found.extend((None, 0, label, len(body)) for operand in operands if operand == ("name", name))
    return found


def slow_plain(function, name):
    """Return None, or the list of (op, kind, offset) of the accesses, kills and geps of a plain alloca."""
    found = []
    for row, index, _, _ in users(function, name):
        if row is None or index != pointer_index(row):
            return None
        found.append((row[1], row[2], 0))
        if row[1] == "gep":
            if len(row[3]) > 1:
                return None
            for other, at, _, _ in users(function, row[0]):
                if other is None or other[1] not in ("load", "store") or at != pointer_index(other):
                    return None
                found.append((other[1], other[2], row[4][0]))
    return found


def slow_uniform(function):
    """Return the pairs of the uniform allocas without kill, by the words of the document."""
    found = []
    for row in allocas(function):
        told = slow_plain(function, row[0])
        if not told or any(op in ("gep", "kill") for op, _, _ in told):
            continue
        kinds = {kind for _, kind, _ in told}
        if len(kinds) == 1 and size(list(kinds)[0]) <= row[4][0]:
            found.append((row[0], list(kinds)[0]))
    return found


def touched(row, name):
    if row[0] == name:
        return "alloca"
    if row[1] in ("load", "store") and row[3][pointer_index(row)] == ("name", name):
        return row[1]
    return ""


def first_touched(block, name):
    """Return what a block does first with an alloca, "" if nothing."""
    return ([touched(row, name) for row in block[2] if touched(row, name)] + [""])[0]


def slow_wanting(function, name):
    """Return the labels from whose start a path reaches a load ahead of a store and the alloca."""
    found = []
    for block in function[3]:
        seen, waiting, wants = set(), [block[0]], False
        while waiting:
            label = waiting.pop()
            if label in seen:
                continue
            seen.add(label)
            first = first_touched(find_block(function, label), name)
            wants = wants or first == "load"
            if first == "":
                waiting.extend(target for target, _ in edges(find_block(function, label)[3]))
        if wants:
            found.append(block[0])
    return found


def slow_joins(function, name):
    """Return the joins of a uniform alloca, by the words of the document."""
    graph = graph_of(function)
    tree = immediate_dominators(graph)
    home = definition_places(function)[name][0]
    setting = [block[0] for block in function[3] if any(touched(row, name) in ("store", "alloca") for row in block[2])]
    wanting = slow_wanting(function, name)
    return [label for label in iterated_frontier(graph, setting) if label in wanting and label != home and dominates(tree, home, label)]


def kills_last(function, name):
    """Tell whether all kills of a plain alloca are last."""
    names = {name} | {row[0] for row, _, _, _ in users(function, name) if row is not None and row[1] == "gep"}
    places = [(label, k) for row, _, label, k in users(function, name) if row is not None and row[1] == "kill"]
    for label, k in places:
        seen, waiting = set(), [(label, k + 1)]
        while waiting:
            at, first = waiting.pop()
            block = find_block(function, at)
            for row in block[2][first:]:
                if row[0] == name:
                    break
                if any(operand[0] == "name" and operand[1] in names for operand in row[3]):
                    return False
            else:
                for target, _ in edges(block[3]):
                    if target not in seen:
                        seen.add(target)
                        waiting.append((target, 0))
    return True


def with_object(rnd, module, name):
    """Return the module with one more uniform alloca in a function, in any block, and what stores to it and loads from it."""
    function = find_function(module, name)
    graph = graph_of(function)
    tree, labels = immediate_dominators(graph), reached(function)
    home = rnd.choice(labels[:2])
    below = [label for label in labels if label != home and dominates(tree, home, label)]
    pointer, kind = new_name(function), rnd.choice(("i8", "i32", "i64"))
    fresh = pointer + 1
    blocks = {block[0]: list(block[2]) for block in function[3]}
    for label in [home] + [rnd.choice(below) for _ in range(rnd.randrange(12)) if below]:
        for _ in range(rnd.randrange(1, 3)):
            if rnd.random() < 0.5:
                row = (-1, "store", kind, (("int", kind, rnd.randrange(100)), ("name", pointer)), (), 7)
            else:
                row = (fresh, "load", kind, (("name", pointer),), (), 7)
                fresh += 1
            blocks[label].insert(rnd.randrange(len(blocks[label]) + 1) if label != home else len(blocks[label]), row)
            if row[1] == "load" and kind == "i32" and rnd.random() < 0.7:
                blocks[label].insert(blocks[label].index(row) + 1, (-1, "call", "void", (("name", row[0]),), ("put",), 8))
    blocks[home].insert(0, (pointer, "alloca", "ptr", (), (size(kind) + rnd.randrange(3),), -1))
    return put_function(module, function[:3] + (tuple((block[0], block[1], tuple(blocks[block[0]]), block[3]) for block in function[3]),))


class PlainTest(PassCase):

    def uniform(self, text):
        return uniform_allocas(self.module(text)[1][-1])

    def test_uniform(self):
        self.assertEqual(self.uniform(EXAMPLE), [(0, "i32")])
        self.assertEqual(self.uniform("0(): $5 = alloca 9 $3 = alloca 8 store ptr null, $3 !1 store i64 i64 1, $5 !2 ret i32 0"), [(5, "i64"), (3, "ptr")])
        for text in ("$0 = alloca 4 ret i32 0", "$0 = alloca 4 $1 = gep $0, 0 store i32 i32 1, $1 !1 ret i32 0", "$0 = alloca 3 store i32 i32 1, $0 !1 ret i32 0",
                     "$0 = alloca 4 store i32 i32 1, $0 !1 $1 = load i16 $0 !2 ret i32 0", "$0 = alloca 8 store ptr $0, $0 !1 ret i32 0", "$0 = alloca 8 kill $0 store i32 i32 1, $0 !1 ret i32 0",
                     "$0 = alloca 8 store i32 i32 1, $0 !1 call void free($0) !2 ret i32 0", "$0 = alloca 8 $1 = select ptr i1 1, $0, $0 store i32 i32 1, $0 !1 ret i32 0",
                     "$0 = alloca 8 $1 = icmp eq ptr $0, null store i32 i32 1, $0 !1 ret i32 0", "$0 = alloca 8 store i32 i32 1, $0 !1 br 1($0) 1($1 ptr): ret i32 0"):
            self.assertEqual(self.uniform("0(): " + text), [], text)
            self.leaves(promote, "0(): " + text)

    def test_joins(self):
        function = self.module(EXAMPLE)[1][0]
        self.assertEqual(joins(function, 0), [2])
        # A block that does not want the value is none; nor is one that the alloca does not dominate strictly.
        self.assertEqual(joins(self.module(EXAMPLE.replace("$3 = load i32 $0 !4 ret $3", "ret i32 0"))[1][0], 0), [])
        self.assertEqual(joins(self.module(EXAMPLE.replace("2(): $3", "2(): store i32 i32 7, $0 !5 $3"))[1][0], 0), [])
        loop = "0(): br 1() 1(): $0 = alloca 4 $1 = load i32 $0 !1 store i32 i32 3, $0 !2 $2 = load i32 $0 !3 $3 = icmp eq i32 $1, $2 condbr $3, 1(), 2() 2(): ret $2"
        self.assertEqual(joins(self.module(loop)[1][0], 0), [])
        text = "0(): $0 = alloca 4 br 1() 1(): $1 = load i32 $0 !1 $2 = add i32 $1, i32 1 store i32 $2, $0 !2 $3 = icmp ult i32 $2, i32 9 condbr $3, 1(), 2() 2(): $4 = load i32 $0 !3 ret $4"
        self.assertEqual(joins(self.module(text)[1][0], 0), [1])

    def test_random(self):
        found = 0
        for seed in range(300):
            for function in random_module(seed)[1]:
                self.assertEqual(uniform_allocas(function), slow_uniform(function))
                for name, _ in uniform_allocas(function):
                    self.assertEqual(joins(function, name), slow_joins(function, name))
                    found += len(joins(function, name))
        self.assertGreater(found, 3)


class DropKillsTest(PassCase):

    def test_last_kills(self):
        text = "0(): $0 = alloca 4 store i32 i32 5, $0 !1 $1 = call i32 get() !2 $2 = icmp eq i32 $1, i32 0 condbr $2, 1(), 2() 1(): kill $0 br 2() 2(): {} ret i32 0"
        certificate = self.leads(drop_kills, text.format(""), text.format("").replace("kill $0 ", ""))
        self.assertEqual(certificate, (("drop_kills", "main", 0),))
        for used in ("$3 = load i32 $0 !4", "kill $0", "$3 = gep $0, 0", "store i32 i32 1, $0 !4"):
            self.leaves(drop_kills, text.format(used))
        self.leaves(drop_kills, "0(): $0 = alloca 4 ret i32 0")
        # A gep that is made ahead of the kill and used behind it.
        self.leaves(drop_kills, "0(): $0 = alloca 4 $1 = gep $0, 0 kill $0 $2 = load i8 $1 !1 ret i32 0")
        self.leads(drop_kills, "0(): $0 = alloca 4 $1 = gep $0, 1 $2 = load i8 $1 !1 kill $0 ret i32 0", "0(): $0 = alloca 4 $1 = gep $0, 1 $2 = load i8 $1 !1 ret i32 0")

    def test_plain_ones_only(self):
        for text in ("$1 = gep $0, 0 $3 = gep $1, 0 kill $0", "$1 = gep $0, 0, i64 1 * 2 kill $0", "call void free($0) !1 kill $0", "$1 = gep $0, 0 kill $1"):
            self.leaves(drop_kills, "0(): $0 = alloca 4 " + text + " ret i32 0")

    def test_loops(self):
        # The kill is met again, but for the alloca between.
        text = "0(): {} br 1(i32 0) 1($1 i32): {} store i32 $1, $0 !1 kill $0 $2 = add i32 $1, i32 1 $3 = icmp ult i32 $2, i32 4 condbr $3, 1($2), 2() 2(): ret i32 0"
        self.leads(drop_kills, text.format("", "$0 = alloca 4"), text.format("", "$0 = alloca 4").replace("kill $0 ", ""))
        self.leaves(drop_kills, text.format("$0 = alloca 4", ""))

    def test_order_and_amount(self):
        text = "0(): $7 = alloca 4 $3 = alloca 4 $5 = alloca 4 kill $5 kill $5 kill $3 kill $7 ret i32 0 9(): ret i32 1"
        module = self.module(text)
        steps = (("prune", "main"), ("drop_kills", "main", 7), ("drop_kills", "main", 3))
        for amount, due in ((0, steps[:1]), (1, steps[:2]), (2, steps), (3, steps), (1000, steps)):
            self.assertEqual(self.passed(drop_kills, module, amount=amount)[0], due)
        self.assertEqual(drop_kills(module, "main"), steps)

    def test_random(self):
        def look(module, name, certificate, changed):
            function = find_function(changed, name)
            before = find_function(module, name)
            told = [step for step in certificate if step[0] == "drop_kills"]
            if len(reached(before)) == len(before[3]):
                due = []
                for row in allocas(before):
                    found = slow_plain(before, row[0])
                    if found is not None and any(op == "kill" for op, _, _ in found) and kills_last(before, row[0]):
                        due.append(("drop_kills", name, row[0]))
                self.assertEqual(told, due)
            for row in allocas(function):
                found = slow_plain(function, row[0])
                if found is not None and any(op == "kill" for op, _, _ in found):
                    self.assertFalse(kills_last(function, row[0]))
            self.assertEqual(drop_kills(changed, name), ())
        self.assertGreater(self.over_random(drop_kills, range(200), look), 20)
        self.joined(drop_kills, range(25))


class SplitTest(PassCase):

    def sizes(self, text, name=0):
        return parts(self.module(text)[1][-1], name)

    def test_parts(self):
        text = "0(): $0 = alloca 16 $1 = gep $0, {} $2 = gep $0, {} store {} {}, $1 !1 $3 = load {} $2 !2 ret i32 0"
        self.assertEqual(self.sizes(text.format(0, 8, "i32", "i32 1", "i32")), [8, 8])
        # The first part begins at byte 0, the last one ends at the end.
        self.assertEqual(self.sizes(text.format(3, 10, "i8", "i8 1", "i16")), [10, 6])
        self.assertEqual(self.sizes(text.format(12, 3, "i32", "i32 1", "i8")), [12, 4])
        # Side by side, or with a byte in common.
        self.assertEqual(self.sizes(text.format(0, 4, "i32", "i32 1", "i32")), [4, 12])
        self.assertEqual(self.sizes(text.format(0, 3, "i32", "i32 1", "i32")), [16])
        self.assertEqual(self.sizes(text.format(0, 0, "i64", "i64 1", "i8")), [16])
        # Not inside.
        for offset in (13, 16, -1, -4, 2147483647):
            self.assertEqual(self.sizes(text.format(0, offset, "i32", "i32 1", "i32")), [])
        self.assertEqual(self.sizes("0(): $0 = alloca 16 ret i32 0"), [])
        self.assertEqual(self.sizes("0(): $0 = alloca 16 $1 = gep $0, 8 ret i32 0"), [])
        self.assertEqual(self.sizes("0(): $0 = alloca 16 $1 = gep $0, 8 store i8 i8 1, $1 !1 store i8 i8 1, $0 !2 call void free($0) !3 ret i32 0"), [])
        self.assertEqual(self.sizes("0(): $0 = alloca 16 ret i32 0", 7), [])
        # Three that are united by the one between them.
        self.assertEqual(self.sizes("0(): $0 = alloca 16 $1 = gep $0, 3 $2 = gep $0, 6 store i32 i32 1, $0 !1 store i32 i32 1, $1 !2 store i32 i32 1, $2 !3 $3 = gep $0, 10 store i8 i8 1, $3 !4 ret i32 0"), [10, 6])

    def test_split(self):
        text = "0(): $7 = alloca 16 $1 = gep $7, 9 store i32 i32 5, $7 !1 store i32 i32 6, $1 !2 $2 = gep $7, 5 $3 = load i32 $1 !3 $4 = load i8 $2 !4 ret $3"
        due = "0(): $8 = alloca 5 $9 = alloca 4 $10 = alloca 7 store i32 i32 5, $8 !1 store i32 i32 6, $10 !2 $3 = load i32 $10 !3 $4 = load i8 $9 !4 ret $3"
        certificate = self.leads(split, text, due)
        self.assertEqual(certificate, (("split_alloca", "main", 0, 0, (5, 4, 7), (8, 9, 10)), ("rule", "main", 0, 3, 64, ()), ("rule", "main", 0, 5, 64, ())))
        # A gep that does not lead to the beginning stays.
        text = "0(): $0 = alloca 12 $1 = gep $0, 6 store i32 i32 5, $0 !1 $2 = gep $0, 8 store i32 i32 6, $1 !2 $3 = load i16 $2 !3 ret i32 0"
        self.leads(split, text, "0(): $4 = alloca 6 $5 = alloca 6 store i32 i32 5, $4 !1 $2 = gep $5, 2 store i32 i32 6, $5 !2 $3 = load i16 $2 !3 ret i32 0")

    def test_left_alone(self):
        base = "0(): $0 = alloca 16 $1 = gep $0, 8 store i32 i32 5, $0 !1 store i32 i32 6, $1 !2 "
        for text in ("kill $0 ret i32 0", "$2 = gep $0, 13 store i32 i32 1, $2 !3 ret i32 0", "$2 = gep $0, 0, i64 1 * 4 ret i32 0", "store ptr $0, $0 !3 ret i32 0", "$2 = gep $0, 4 store i64 i64 1, $2 !3 $3 = gep $0, 1 store i32 i32 1, $3 !4 ret i32 0"):
            self.leaves(split, base + text)

    def test_order_and_amount(self):
        text = "0(): $3 = alloca 2 $0 = alloca 2 $1 = gep $0, 1 store i8 i8 5, $0 !1 store i8 i8 6, $1 !2 $2 = gep $3, 1 store i8 i8 5, $3 !3 store i8 i8 6, $2 !4 ret i32 0 9(): ret i32 1"
        module = self.module(text)
        steps = (("prune", "main"), ("split_alloca", "main", 0, 0, (1, 1), (4, 5)), ("rule", "main", 0, 6, 64, ()), ("split_alloca", "main", 0, 2, (1, 1), (6, 7)), ("rule", "main", 0, 4, 64, ()))
        for amount, due in ((0, steps[:1]), (1, steps[:3]), (2, steps), (1000, steps)):
            self.assertEqual(self.passed(split, module, amount=amount)[0], due)

    def test_random(self):
        def look(module, name, certificate, changed):
            function = find_function(changed, name)
            for row in allocas(function):
                found = slow_plain(function, row[0])
                if found is None or any(op == "kill" for op, _, _ in found):
                    continue
                told = [(offset, offset + size(kind)) for op, kind, offset in found if op in ("load", "store")]
                if any(begin < 0 or end > row[4][0] for begin, end in told):
                    self.assertEqual(parts(function, row[0]), [])
                    continue
                joined = [set(range(begin, end)) for begin, end in told]
                while any(a & b for a in joined for b in joined if a is not b):
                    a, b = [(a, b) for a in joined for b in joined if a is not b and a & b][0]
                    joined = [c for c in joined if c is not a and c is not b] + [a | b]
                self.assertLessEqual(len(joined), 1)
                self.assertEqual(parts(function, row[0]), [row[4][0]] if joined else [])
            self.assertEqual(split(changed, name), ())
        self.assertGreater(self.over_random(split, range(200), look), 40)
        self.joined(split, range(25))


class PromoteTest(PassCase):

    def test_example(self):
        certificate = self.leads(promote, EXAMPLE, "0(): $1 = call i32 get() !2 $2 = icmp eq i32 $1, i32 0 condbr $2, 1(), 2(i32 5) 1(): br 2(i32 6) 2($6 i32): ret $6")
        plain = ((), (), ((0, (("at", 0),)),))
        module = self.module(EXAMPLE)
        tables = []
        for step in certificate:
            tables.append((plain, solve_effects(module), ()))
            module = apply_step(module, step)
        memory = ((2, ((("name", 0), "i32", ("name", 6)),)),)
        self.assertEqual(certificate, (
            ("insert_load", "main", tables[0], 0, 4, (4, "load", "i32", (("name", 0),), (), 0)),
            ("insert_load", "main", tables[1], 1, 1, (5, "load", "i32", (("name", 0),), (), 0)),
            ("add_param", "main", 2, 6, "i32", (("name", 4), ("name", 5))),
            ("forward", "main", tables[3][:2] + (memory,), ((0, 4), (1, 1), (2, 0))),
            ("unread_store", "main", tables[4], ((0, 1), (1, 0))),
            ("drop_names", "main", (0,)),
        ))

    def test_straight(self):
        text = "0(): $0 = alloca 8 $1 = load i32 $0 !1 $2 = call i32 get() !2 store i32 $2, $0 !3 $3 = load i32 $0 !4 store i32 $1, $0 !5 $4 = load i32 $0 !6 $5 = add i32 $3, $4 ret $5"
        certificate = self.leads(promote, text, "0(): $2 = call i32 get() !2 $5 = add i32 $2, i32 0 ret $5")
        self.assertEqual(self.words(certificate), ["forward", "unread_store", "drop_names"])
        # Without loads, without stores.
        self.assertEqual(self.words(self.leads(promote, "0(): $0 = alloca 4 store i32 i32 5, $0 !1 ret i32 0", "0(): ret i32 0")), ["unread_store", "drop_names"])
        self.assertEqual(self.words(self.leads(promote, "0(): $0 = alloca 8 $1 = load ptr $0 !1 $2 = icmp eq ptr $1, null $3 = zext i32 $2 ret $3", "0(): $2 = icmp eq ptr null, null $3 = zext i32 $2 ret $3")), ["forward", "drop_names"])

    def test_loop(self):
        text = "0(): $0 = alloca 4 br 1() 1(): $1 = load i32 $0 !1 $2 = add i32 $1, i32 1 store i32 $2, $0 !2 $3 = icmp ult i32 $2, i32 9 condbr $3, 1(), 2() 2(): $4 = load i32 $0 !3 ret $4"
        self.leads(promote, text, "0(): br 1(i32 0) 1($7 i32): $2 = add i32 $7, i32 1 $3 = icmp ult i32 $2, i32 9 condbr $3, 1($2), 2() 2(): ret $2")
        # Made anew in each turn.
        text = "0(): br 1(i32 0) 1($5 i32): $0 = alloca 4 $1 = load i32 $0 !1 $2 = add i32 $5, i32 1 store i32 $2, $0 !2 $6 = load i32 $0 !3 $3 = icmp ult i32 $6, i32 9 condbr $3, 1($6), 2() 2(): $4 = load i32 $0 !4 $7 = add i32 $1, $4 ret $7"
        self.leads(promote, text, "0(): br 1(i32 0) 1($5 i32): $2 = add i32 $5, i32 1 $3 = icmp ult i32 $2, i32 9 condbr $3, 1($2), 2() 2(): $7 = add i32 i32 0, $2 ret $7")

    def test_several_edges_of_one_block(self):
        text = "0(): $0 = alloca 4 $1 = call i32 get() !1 store i32 $1, $0 !2 switch $1, 0: 2(), 1: 2(), 2: 1(), else 2() 1(): store i32 i32 7, $0 !3 br 2() 2(): $2 = load i32 $0 !4 ret $2"
        certificate = self.leads(promote, text, "0(): $1 = call i32 get() !1 switch $1, 0: 2($1), 1: 2($1), 2: 1(), else 2($1) 1(): br 2(i32 7) 2($7 i32): ret $7")
        self.assertEqual([step[3:5] + (step[5][0],) for step in certificate if step[0] == "insert_load"], [(0, 3, 3), (0, 4, 4), (0, 5, 5), (1, 1, 6)])

    def test_kills_and_unreachable_blocks(self):
        text = "0(): $0 = alloca 4 store i32 i32 5, $0 !1 $1 = load i32 $0 !2 kill $0 ret $1 7(): $2 = load i32 $0 !3 ret $2"
        certificate = self.leads(promote, text, "0(): ret i32 5")
        self.assertEqual(self.words(certificate), ["prune", "drop_kills", "forward", "unread_store", "drop_names"])
        self.leaves(promote, "0(): $0 = alloca 4 kill $0 store i32 i32 5, $0 !1 ret i32 0")
        self.assertEqual(promote(self.module("0(): ret i32 0 1(): ret i32 1"), "main"), (("prune", "main"),))

    def test_an_alloca_that_another_one_holds(self):
        # When the pointer to $0 is no longer stored, $0 is uniform, too; its kill goes only then.
        text = "0(): $0 = alloca 4 $1 = alloca 8 store ptr $0, $1 !1 $2 = load ptr $1 !2 store i32 i32 5, $2 !3 $3 = load i32 $0 !4 {}ret $3"
        self.leads(promote, text.format(""), "0(): ret i32 5")
        certificate = self.leads(promote, text.format("kill $0 "), "0(): ret i32 5")
        self.assertEqual(self.words(certificate), ["forward", "unread_store", "drop_names", "drop_kills", "forward", "unread_store", "drop_names"])

    def test_amount(self):
        text = "0(): $4 = alloca 4 $0 = alloca 4 store i32 i32 5, $0 !1 $1 = load i32 $0 !2 store i32 $1, $4 !3 $5 = load i32 $4 !4 $6 = alloca 1 store i8 i8 1, $6 !5 ret $5 7(): ret i32 1"
        module = self.module(text)
        for amount, left in ((0, 3), (1, 2), (2, 1), (3, 0), (1000, 0)):
            certificate, changed = self.passed(promote, module, amount=amount)
            self.assertEqual(certificate[0], ("prune", "main"))
            self.assertEqual(len(allocas(changed[1][0])), left)
            self.assertEqual([row[0] for row in allocas(changed[1][0])], [4, 0, 6][3 - left:])
        # Kills count, too: of each alloca once.
        text = "0(): $0 = alloca 4 $1 = alloca 4 store i32 i32 5, $0 !1 store i32 i32 6, $1 !2 kill $0 kill $1 ret i32 0"
        self.assertEqual(self.words(promote(self.module(text), "main", amount=1)), ["drop_kills", "unread_store", "drop_names"])

    def test_names_at_the_bound(self):
        # There is no new name left, so the alloca with a join stays; the others go.
        text = EXAMPLE.replace("$3", "$999999999").replace("0(): ", "0(): $7 = alloca 4 store i32 i32 1, $7 !9 ")
        certificate, changed = self.passed(promote, self.module(text))
        self.assertEqual([row[0] for row in allocas(changed[1][0])], [0])
        self.assertEqual(self.words(certificate), ["unread_store", "drop_names"])

    def test_random(self):
        def look(module, name, certificate, changed):
            function = find_function(changed, name)
            self.assertEqual(slow_uniform(function), [])
            self.assertEqual(promote(changed, name), ())
            fresh, before = new_name(find_function(module, name)), module
            for step in certificate:
                if step[0] == "insert_load":
                    self.assertEqual(step[5][0], new_name(find_function(before, name)))
                elif step[0] == "add_param":
                    self.assertEqual(step[3], new_name(find_function(before, name)))
                    self.assertEqual(len(step[5]), len(incoming(find_function(before, name), step[2])))
                before = apply_step(before, step)
            self.assertGreaterEqual(new_name(function), 0)
            self.assertGreaterEqual(fresh, 0)
        self.assertGreater(self.over_random(promote, range(250), look), 60)
        self.joined(promote, range(25))

    def test_random_objects(self):
        found = 0
        for seed in range(250):
            rnd = random.Random(seed)
            module = random_module(3 * seed if seed % 2 else seed, statements=4, depth=2)
            name = rnd.choice([function[0] for function in module[1]])
            for _ in range(rnd.randrange(1, 3)):
                module = with_object(rnd, module, name)
            self.assertEqual(faults(module), [])
            function = find_function(module, name)
            for own, _ in uniform_allocas(function):
                self.assertEqual(joins(function, own), slow_joins(function, own))
                found += len(joins(function, own))
            changed = self.passed(promote, module, name)[1]
            self.assertEqual(slow_uniform(find_function(changed, name)), [])
            self.assertEqual(promote(changed, name), ())
        self.assertGreater(found, 60)

    def test_many(self):
        blocks, rows = [], []
        for k in range(40):
            rows.append((k, "alloca", "ptr", (), (4,), -1))
        rows.append((40, "call", "i32", (), ("get",), 1))
        for k in range(40):
            here = tuple([(-1, "store", "i32", (("int", "i32", k), ("name", k)), (), 1)])
            there = ((100 + k, "load", "i32", (("name", k),), (), 1), (-1, "call", "void", (("name", 100 + k),), ("put",), 1))
            blocks.append((3 * k + 1, (), here, ("switch", ("name", 40), ((k, (3 * k + 2, ())),), (3 * k + 3, ()))))
            blocks.append((3 * k + 2, (), ((-1, "store", "i32", (("name", 40), ("name", k)), (), 1),), ("br", (3 * k + 3, ()))))
            blocks.append((3 * k + 3, (), there, ("br", (3 * k + 4, ()))))
        blocks.append((121, (), (), ("ret", ("int", "i32", 0))))
        module = ((), (("main", "i32", False, ((0, (), tuple(rows), ("br", (1, ()))),) + tuple(blocks)),))
        certificate = shallow(lambda: promote(module, "main"))
        changed, at = shallow(lambda: check(module, certificate))
        self.assertEqual((at, len(certificate)), (-1, 240))
        self.same_runs(module, changed)
        self.assertEqual(allocas(changed[1][0]), [])


if __name__ == "__main__":
    unittest.main()
