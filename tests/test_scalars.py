"""Promises 8.2 to 8.5: constants, numbering, deadcode and sinking."""

import unittest

from burnish.check import apply_step, check
from burnish.combine import combine
from burnish.constants import constants
from burnish.deadcode import deadcode, needed_names
from burnish.dominators import dominates, immediate_dominators
from burnish.edits import Scope, block_names, is_pure, uses
from burnish.effects import callee_effects, solve_effects
from burnish.equations import solve_equations
from burnish.graph import definition_places, graph_of, reachable
from burnish.loops import is_reducible, loops
from burnish.numbering import leaders, numbering
from burnish.records import definitions, edges, end_operands, find_block, find_function
from burnish.run import run
from burnish.scopes import kinds_of, reached
from burnish.sinking import sinking
from burnish.solve import solve_values
from burnish.values import live_labels, range_of
from passing import PassCase
from stepping import INPUTS
from test_bounds import big_function, shallow

GET = "0(): $0 = call i32 get() !1 $1 = trunc i8 $0 "


def used(function, name):
    return uses(function, name) != []


class ConstantsTest(PassCase):

    def test_names_that_have_one_value(self):
        text = GET + "$2 = and i8 $1, i8 7 $3 = lshr i8 $2, i8 3 $4 = add i8 $3, i8 5 $5 = zext i32 $4 call void put($5) !2 ret $5"
        certificate = self.leads(constants, text, text.replace("$3, i8 5", "i8 0, i8 5").replace("zext i32 $4", "zext i32 i8 5").replace("put($5)", "put(i32 5)").replace("ret $5", "ret i32 5"))
        self.assertEqual(certificate, (("ranges", "main", solve_values(self.module(text), self.module(text)[1][0]), (3, 4, 5)),))
        self.leaves(constants, GET + "$2 = zext i32 $1 ret $2")
        # A name without a use is not named.
        self.leaves(constants, "0(): $0 = and i8 i8 1, i8 2 ret i32 0")

    def test_ends(self):
        text = "0(): $0 = call i32 get() !1 $1 = or i32 $0, i32 4 $2 = icmp eq i32 $1, i32 3 condbr $2, 1(), 2() 1(): ret i32 1 2(): switch i8 3, 3: 3(), else 1() 3(): switch $0, 1: 4(), else 4() 4(): ret i32 4"
        certificate = self.leads(constants, text, "0(): $0 = call i32 get() !1 $1 = or i32 $0, i32 4 $2 = icmp eq i32 $1, i32 3 br 2() 2(): br 3() 3(): br 4() 4(): ret i32 4")
        self.assertEqual(self.words(certificate), ["ranges", "fold_end", "fold_end", "fold_end", "prune"])
        self.assertEqual(certificate[1:], (("fold_end", "main", 0), ("fold_end", "main", 2), ("fold_end", "main", 3), ("prune", "main")))
        self.cut(constants, text)
        self.leads(constants, "0(): ret i32 0 1(): ret i32 1", "0(): ret i32 0")
        # Two edges with the same label and other args are not equal.
        text = GET + "condbr i1 0, 1($1), 1(i8 2) 1($2 i8): $3 = zext i32 $2 ret $3"
        self.leads(constants, text, GET + "br 1(i8 2) 1($2 i8): $3 = zext i32 i8 2 ret i32 2")
        text = GET + "$4 = icmp eq i8 $1, i8 0 condbr $4, 1($1), 1(i8 2) 1($2 i8): $3 = zext i32 $2 ret $3"
        self.leaves(constants, text)

    def test_labels_that_are_not_live(self):
        # Block 1 is reached by an edge that is never taken; what it defines is not named, and it goes.
        text = GET + "$2 = or i8 $1, i8 1 $3 = icmp eq i8 $2, i8 0 condbr $3, 1(), 2() 1(): $4 = and i8 i8 1, i8 2 $5 = zext i32 $4 ret $5 2(): ret i32 7"
        certificate = self.leads(constants, text, GET + "$2 = or i8 $1, i8 1 $3 = icmp eq i8 $2, i8 0 br 2() 2(): ret i32 7")
        self.assertEqual(certificate[0][3], (3,))

    def test_loop(self):
        text = "0(): br 1(i8 0, i8 3) 1($0 i8, $1 i8): $2 = icmp ult i8 $0, i8 10 condbr $2, 2(), 3() 2(): $3 = add i8 $0, i8 1 br 1($3, $1) 3(): $4 = zext i32 $1 ret $4"
        self.leads(constants, text, text.replace("br 1($3, $1)", "br 1($3, i8 3)").replace("zext i32 $1", "zext i32 i8 3").replace("ret $4", "ret i32 3"))

    def test_random(self):
        def look(module, name, certificate, changed):
            function = find_function(changed, name)
            self.assertEqual(sorted(reached(function)), sorted(block[0] for block in function[3]))
            for block in function[3]:
                if block[3][0] in ("condbr", "switch"):
                    self.assertNotEqual(block[3][1][0], "int")
                    self.assertGreater(len(set(edges(block[3]))), 1)
            before = find_function(module, name)
            table = solve_values(module, before)
            live = live_labels(before, table[0])
            due = []
            for block in before[3]:
                for known, kind in definitions((name, "i32", False, (block,))):
                    bounds = range_of(before, table, ("name", known))
                    if kind != "ptr" and block[0] in live and used(before, known) and bounds[0] == bounds[1]:
                        due.append(known)
            told = [step[3] for step in certificate if step[0] == "ranges"]
            self.assertEqual(told, [tuple(sorted(due))] if due else [])
            self.assertEqual(self.words(certificate)[len(told):], ["fold_end"] * (len(certificate) - len(told) - (certificate[-1:] == (("prune", name),))) + ["prune"] * (certificate[-1:] == (("prune", name),)))
            self.assertEqual(constants(changed, name), ())
        self.assertGreater(self.over_random(constants, range(120), look), 60)


def slow_leaders(function, table):
    """Return the pairs (x, leader), by the words of the document."""
    scope = Scope(function)
    spots = {}
    for label, params, body, _ in function[3]:
        for k, name in enumerate([name for name, _ in params] + [row[0] for row in body]):
            spots[name] = (label, k)

    def before(y, x):
        if spots[y][0] == spots[x][0]:
            return spots[y][1] < spots[x][1]
        return scope.strictly(spots[y][0], spots[x][0])

    found = {}
    for row in table:
        for x in row:
            ahead = [y for y in row if y != x and before(y, x)]
            first = [y for y in ahead if all(z == y or before(y, z) for z in ahead)]
            if first:
                found[x] = first
    pairs = []
    for x, first in found.items():
        left = [y for y in first if y not in found]
        if left:
            pairs.append((x, left[0]))
    return sorted(pair for pair in pairs if used(function, pair[0]))


class NumberingTest(PassCase):

    def test_one_block_and_dominating_blocks(self):
        text = ("0(): $0 = call i32 get() !1 $1 = add i32 $0, i32 3 $2 = add i32 $0, i32 3 $3 = icmp eq i32 $1, $2 condbr $3, 1(), 2() 1(): $4 = add i32 $0, i32 3 call void put($4) !2 ret $2 "
                "2(): $5 = add i32 $0, i32 4 $6 = add i32 $0, i32 4 ret $6")
        certificate = self.leads(numbering, text, text.replace("eq i32 $1, $2", "eq i32 $1, $1").replace("put($4)", "put($1)").replace("ret $2", "ret $1").replace("ret $6", "ret $5"))
        function = self.module(text)[1][0]
        table = solve_equations(function)
        self.assertEqual(leaders(function, table), [(2, 1), (4, 1), (6, 5)])
        self.assertEqual(certificate, (("equal", "main", table, ((2, 1), (4, 1), (6, 5))),))
        self.cut(numbering, text)

    def test_names_without_use_and_without_leader(self):
        text = GET + "$2 = add i8 $1, i8 1 $3 = add i8 $1, i8 1 $4 = zext i32 $2 ret $4"
        self.leaves(numbering, text)
        function = self.module(text)[1][0]
        self.assertEqual(leaders(function, solve_equations(function)), [])
        # Neither branch is ahead of the other one, so the first of each branch is a leader there.
        text = (GET + "$2 = icmp eq i8 $1, i8 0 condbr $2, 1(), 2() 1(): $3 = add i8 $1, i8 1 $4 = add i8 $1, i8 1 $5 = zext i32 $4 ret $5 2(): $6 = add i8 $1, i8 1 $7 = add i8 $1, i8 1 $8 = zext i32 $7 ret $8")
        self.leads(numbering, text, text.replace("zext i32 $4", "zext i32 $3").replace("zext i32 $7", "zext i32 $6"))
        # Behind them is no leader, either.
        text = (GET + "$2 = icmp eq i8 $1, i8 0 condbr $2, 1(), 2() 1(): $3 = add i8 $1, i8 1 br 3($3) 2(): $6 = add i8 $1, i8 1 br 3($6) 3($7 i8): $8 = add i8 $1, i8 1 $9 = xor i8 $8, $7 $10 = zext i32 $9 ret $10")
        self.leaves(numbering, text)

    def test_params(self):
        text = "0(): $0 = call i32 get() !1 br 1($0, $0, i32 5) 1($1 i32, $2 i32, $3 i32): $4 = add i32 $1, $2 $5 = icmp eq i32 $4, $3 condbr $5, 1($4, $4, $3), 2() 2(): ret $2"
        self.leads(numbering, text, text.replace("add i32 $1, $2", "add i32 $1, $1").replace("ret $2", "ret $1"))
        # The params of the entry are not equal.
        self.leaves(numbering, "internal f i32 { 0($0 i32, $1 i32): $2 = add i32 $0, $1 ret $2 }", "f")

    def test_loops(self):
        text = ("0(): br 1(i8 0, i8 0) 1($0 i8, $1 i8): $2 = add i8 $0, i8 1 $3 = add i8 $1, i8 1 $4 = icmp ult i8 $2, i8 9 condbr $4, 1($2, $3), 2() 2(): $5 = zext i32 $3 ret $5")
        self.leads(numbering, text, text.replace("add i8 $1", "add i8 $0").replace("1($2, $3)", "1($2, $2)").replace("zext i32 $3", "zext i32 $2"))

    def test_divisions(self):
        text = GET + "$2 = udiv i8 i8 7, $1 !2 $3 = udiv i8 i8 7, $1 !3 $4 = add i8 $2, $3 $5 = zext i32 $4 ret $5"
        certificate = self.leads(numbering, text, GET + "$2 = udiv i8 i8 7, $1 !2 $4 = add i8 $2, $2 $5 = zext i32 $4 ret $5")
        self.assertEqual(self.words(certificate), ["equal", "same"])
        self.assertEqual(certificate[1], ("same", "main", 0, 3, 0, 2))
        self.cut(numbering, text)
        # The first of two that are available is taken, also by one without a use; another op, place or constant is no matter or another division.
        text = GET + "$2 = udiv i8 i8 7, $1 !2 $3 = urem i8 i8 7, $1 !3 $4 = udiv i8 i8 8, $1 !4 br 1() 1(): $5 = udiv i8 i8 7, $1 !5 $6 = udiv i8 i8 7, $1 !6 ret i32 0"
        certificate = self.leads(numbering, text, text.replace("$5 = udiv i8 i8 7, $1 !5 $6 = udiv i8 i8 7, $1 !6 ", ""))
        self.assertEqual(certificate, (("same", "main", 1, 0, 0, 2), ("same", "main", 1, 0, 0, 2)))
        # Not available in the other branch.
        self.leaves(numbering, GET + "$2 = icmp eq i8 $1, i8 0 condbr $2, 1(), 2() 1(): $3 = udiv i8 i8 7, $1 !2 ret i32 1 2(): $4 = udiv i8 i8 7, $1 !3 $5 = zext i32 $4 ret $5")

    def test_blocks_that_no_path_reaches(self):
        text = "0(): $0 = call i32 get() !1 $1 = add i32 $0, i32 1 ret $1 5(): $2 = add i32 $0, i32 1 $3 = add i32 $0, i32 1 ret $3 6(): $4 = add i32 $0, i32 1 ret $4"
        self.leads(numbering, text, text.replace("ret $3", "ret $1").replace("ret $4", "ret $1"))
        text = "0(): $0 = call i32 get() !1 ret $0 5(): $2 = add i32 $0, i32 1 $3 = add i32 $0, i32 1 ret $3"
        self.leads(numbering, text, text.replace("ret $3", "ret $2"))
        self.leaves(numbering, text + " 6(): $4 = add i32 $0, i32 1 ret $4")

    def test_random(self):
        def look(module, name, certificate, changed):
            before, function = find_function(module, name), find_function(changed, name)
            table = solve_equations(before)
            pairs = slow_leaders(before, table)
            self.assertEqual(leaders(before, table), pairs)
            self.assertEqual(certificate[:1] if pairs else (), (("equal", name, table, tuple(pairs)),) if pairs else ())
            self.assertEqual(set(self.words(certificate[1 if pairs else 0:])), {"same"} if len(certificate) > (1 if pairs else 0) else set())
            scope = Scope(function)
            for row in solve_equations(function):
                for x in row:
                    for y in row:
                        if x != y and used(function, x) and used(function, y):
                            self.assertFalse(slow_leaders(function, ((x, y),)) and all(scope.reaches(scope.places[z][0]) for z in (x, y)), (x, y))
        self.assertGreater(self.over_random(numbering, range(300), look), 10)


def slow_needed(module, name):
    """Return the needed names, by the words of the document."""
    function = find_function(module, name)
    found = set()
    while True:
        before = len(found)
        for label, params, body, end in function[3]:
            for row in body:
                division = row[1] in ("udiv", "sdiv", "urem", "srem")
                droppable = is_pure(row) or row[1] == "alloca" or row[1] == "call" and row[4] == ("malloc",) or division and row[3][1][0] == "int" and row[3][1][2] != 0
                if not droppable or row[0] in found:
                    found.update(operand[1] for operand in row[3] if operand[0] == "name")
            if end[0] in ("condbr", "switch", "ret") and end[1] is not None and end[1][0] == "name":
                found.add(end[1][1])
            for target, operands in edges(end):
                for (param, _), operand in zip(find_block(function, target)[1], operands):
                    if param in found and operand[0] == "name":
                        found.add(operand[1])
        if len(found) == before:
            return sorted(found)


class DeadcodeTest(PassCase):

    def test_example(self):
        text = "0(): $0 = call i32 get() !1 $1 = mul i32 $0, i32 8 $2 = udiv i32 $1, i32 1 !2 $3 = sub i32 $2, $2 call void put($3) !3 ret i32 0"
        module = self.module(text)
        left = check(module, combine(module, "main"))[0]
        certificate, changed = self.passed(deadcode, left)
        self.assertEqual(certificate, (("drop_names", "main", (1,)),))
        self.assertEqual(changed, self.module("0(): $0 = call i32 get() !1 call void put(i32 0) !3 ret i32 0"))

    def test_instructions(self):
        text = ("0(): $0 = call i32 get() !1 $1 = alloca 4 $2 = call ptr malloc(i64 8) !2 $3 = udiv i32 $0, i32 3 !3 $4 = udiv i32 $0, i32 0 !4 $5 = udiv i32 i32 3, $0 !5 $6 = load i32 $1 !6 $7 = gep $2, 4, i64 1 * 4 "
                "$8 = add i32 $6, $3 $9 = call i32 get() !7 ret i32 0")
        certificate = self.leads(deadcode, text, "0(): $0 = call i32 get() !1 $1 = alloca 4 $4 = udiv i32 $0, i32 0 !4 $5 = udiv i32 i32 3, $0 !5 $6 = load i32 $1 !6 $9 = call i32 get() !7 ret i32 0")
        self.assertEqual(certificate, (("drop_names", "main", (2, 3, 7, 8)),))
        self.assertEqual(needed_names(self.module(text), "main"), [0, 1])
        self.leaves(deadcode, "0(): $0 = alloca 4 store i32 i32 1, $0 !1 kill $0 ret i32 0")

    def test_params_that_only_feed_themselves(self):
        text = "0(): br 1(i8 0, i32 1) 1($0 i8, $1 i32): $2 = add i8 $0, i8 1 $3 = call i32 get() !1 $4 = icmp eq i32 $3, i32 0 condbr $4, 1($2, $3), 2($0) 2($5 i8): ret i32 0"
        certificate = self.leads(deadcode, text, "0(): br 1() 1(): $3 = call i32 get() !1 $4 = icmp eq i32 $3, i32 0 condbr $4, 1(), 2() 2(): ret i32 0")
        self.assertEqual(certificate, (("drop_names", "main", (0, 1, 2, 5)),))
        # A parameter of the function stays, and what is passed on to a needed one.
        text = "internal f i32 { 0($0 i32, $1 i32): br 1($1, $0) 1($2 i32, $3 i32): ret $3 }"
        self.leads(deadcode, text, "internal f i32 { 0($0 i32, $1 i32): br 1($0) 1($3 i32): ret $3 }", "f")

    HEAD = ("global g 1 constant h 2 internal zero i32 { 0(): ret i32 0 } internal reads i32 { 0(): $0 = load i8 @h !1 ret i32 1 } internal may i32 { 0(): $0 = load i8 @g !1 ret i32 1 } "
            "internal writes void { 0(): store i8 i8 1, @g !1 ret } internal nothing void { 0($0 i32): ret } internal loop i32 { 0(): br 1() 1(): br 1() } ")

    def test_calls(self):
        self.head = self.HEAD
        text = ("0(): $0 = call i32 zero() !1 $1 = call i32 reads() !2 $2 = call i32 may() !3 call void writes() !4 call void nothing($0) !5 $3 = call i32 get() !6 $4 = icmp eq i32 $3, i32 0 condbr $4, 1(), 2() "
                "1(): $5 = call i32 loop() !7 ret i32 1 2(): $6 = call i32 zero() !8 ret $6")
        certificate = self.leads(deadcode, text, "0(): $2 = call i32 may() !3 call void writes() !4 $3 = call i32 get() !6 $4 = icmp eq i32 $3, i32 0 condbr $4, 1(), 2() 1(): $5 = call i32 loop() !7 ret i32 1 2(): $6 = call i32 zero() !8 ret $6")
        effects = solve_effects(self.module(text))
        self.assertEqual(certificate, tuple(("delete_call", "main", effects, 0, k) for k in (4, 1, 0)))
        self.cut(deadcode, text)
        self.head = ""

    def test_calls_and_names_by_turns(self):
        self.head = self.HEAD
        # The argument of a call that goes is not needed afterwards, and then the call that makes that.
        text = "0(): $0 = call i32 zero() !1 $1 = add i32 $0, i32 1 call void nothing($1) !2 ret i32 0"
        certificate = self.leads(deadcode, text, "0(): ret i32 0")
        self.assertEqual(self.words(certificate), ["delete_call", "drop_names", "delete_call"])
        self.head = ""

    def test_random(self):
        def look(module, name, certificate, changed):
            self.assertEqual(needed_names(module, name), slow_needed(module, name))
            function = find_function(changed, name)
            self.assertEqual(deadcode(changed, name), ())
            needed = slow_needed(changed, name)
            self.assertEqual(needed, needed_names(changed, name))
            effects = solve_effects(changed)
            for label, params, body, _ in function[3]:
                if label != function[3][0][0]:
                    self.assertLessEqual({param for param, _ in params}, set(needed))
                for row in body:
                    if is_pure(row) or row[1] == "alloca":
                        self.assertIn(row[0], needed)
                    if callee_effects(changed, effects, row) in ((), ("reads",)):
                        self.assertTrue(used(function, row[0]))
        self.assertGreater(self.over_random(deadcode, range(150), look), 80)


def slow_target(function, name):
    """Return the label to which an instruction belongs, by the words of the document, or None."""
    graph = graph_of(function)
    tree = immediate_dominators(graph)
    found = sorted({label for label, _, _ in uses(function, name)})
    if not found or not set(found) <= set(reachable(graph)):
        return None
    home = definition_places(function)[name][0]
    common = [label for label in reachable(graph) if all(dominates(tree, label, other) for other in found)]
    nearest = [label for label in common if all(dominates(tree, other, label) for other in common)][0]
    way = [nearest]
    while way[-1] != home:
        way.append(tree[way[-1]])
    depth = {label: sum(label in loop[1] for loop in loops(graph)) for label in way}
    return [label for label in way if depth[label] == min(depth.values())][0]


def slow_sinking(module, name):
    """Return the certificate of sinking, by the words of the document."""
    found = []
    function = find_function(module, name)
    for block in reversed(function[3]):
        for row in reversed(block[2]):
            if not is_pure(row):
                continue
            function = find_function(module, name)
            target = slow_target(function, row[0])
            place = definition_places(function)[row[0]]
            if target is not None and target != place[0]:
                found.append(("move", name) + place + (target, 0))
                module = apply_step(module, found[-1])
    return tuple(found)


class SinkingTest(PassCase):

    def test_target(self):
        text = GET + "$2 = mul i8 $1, $1 $3 = icmp eq i8 $1, i8 0 condbr $3, 1(), 2() 1(): $4 = zext i32 $2 ret $4 2(): ret i32 0"
        certificate = self.leads(sinking, text, GET + "$3 = icmp eq i8 $1, i8 0 condbr $3, 1(), 2() 1(): $2 = mul i8 $1, $1 $4 = zext i32 $2 ret $4 2(): ret i32 0")
        self.assertEqual(certificate, (("move", "main", 0, 2, 1, 0),))
        # Used in both branches: it stays. Used in one of them and an instruction of the block: it stays.
        self.leaves(sinking, text.replace("ret i32 0", "$5 = zext i32 $2 ret $5"))
        # Without a use: it stays.
        self.leaves(sinking, GET + "$2 = mul i8 $1, $1 br 1() 1(): ret i32 0")
        self.cut(sinking, text)

    def test_arguments_of_edges(self):
        # The argument is used in the block of the edge.
        text = GET + "$2 = mul i8 $1, $1 $3 = icmp eq i8 $1, i8 0 condbr $3, 1(), 2(i8 0) 1(): br 2($2) 2($4 i8): $5 = zext i32 $4 ret $5"
        self.leads(sinking, text, GET + "$3 = icmp eq i8 $1, i8 0 condbr $3, 1(), 2(i8 0) 1(): $2 = mul i8 $1, $1 br 2($2) 2($4 i8): $5 = zext i32 $4 ret $5")
        self.leaves(sinking, text.replace("2(i8 0) 1()", "2($2) 1()"))

    def test_chains_go_together(self):
        text = GET + "$2 = mul i8 $1, $1 $3 = add i8 $2, i8 1 $4 = icmp eq i8 $1, i8 0 condbr $4, 1(), 2() 1(): $5 = zext i32 $3 ret $5 2(): ret i32 0"
        certificate = self.leads(sinking, text, GET + "$4 = icmp eq i8 $1, i8 0 condbr $4, 1(), 2() 1(): $2 = mul i8 $1, $1 $3 = add i8 $2, i8 1 $5 = zext i32 $3 ret $5 2(): ret i32 0")
        self.assertEqual(certificate, (("move", "main", 0, 3, 1, 0), ("move", "main", 0, 2, 1, 0)))

    def test_loops(self):
        # Not into a loop: the block ahead of it is in fewer loops, and of several such the nearest one is taken.
        loop = "br 2(i8 0) 2($9 i8): $8 = add i8 $9, $2 $7 = icmp ult i8 $8, i8 100 condbr $7, 3(), 4() 3(): br 2($8) 4(): ret i32 0"
        text = "0(): $0 = call i32 get() !1 {}br 1() 1(): {}" + loop
        made = "$1 = trunc i8 $0 $2 = or i8 $1, i8 3 "
        self.leads(sinking, text.format(made, ""), text.format("", made))
        # Out of a loop: a block behind it is in fewer loops than its own.
        text = "0(): br 2(i8 0) 2($9 i8): $8 = add i8 $9, i8 1 $2 = xor i8 $8, i8 85 $7 = icmp ult i8 $8, i8 100 condbr $7, 2($8), 4() 4(): $3 = zext i32 $2 ret $3"
        self.leads(sinking, text, "0(): br 2(i8 0) 2($9 i8): $8 = add i8 $9, i8 1 $7 = icmp ult i8 $8, i8 100 condbr $7, 2($8), 4() 4(): $2 = xor i8 $8, i8 85 $3 = zext i32 $2 ret $3")

    def test_blocks_in_another_order(self):
        # Block 2 stands ahead of block 1, so that it is looked at when two instructions were put to its beginning.
        text = ("0(): $0 = call i32 get() !1 br 1() 2(): $3 = xor i32 $0, i32 7 $5 = icmp eq i32 $0, i32 5 condbr $5, 3(), 5() 3(): $6 = add i32 $2, $3 $11 = add i32 $6, $8 ret $11 "
                "5(): $9 = add i32 $2, $8 ret $9 1(): $2 = mul i32 $0, $0 $8 = or i32 $0, i32 9 $7 = icmp eq i32 $0, i32 0 condbr $7, 2(), 4() 4(): ret i32 0")
        certificate = self.passed(sinking, self.module(text))[0]
        self.assertEqual(certificate, (("move", "main", 1, 1, 2, 0), ("move", "main", 1, 0, 2, 0), ("move", "main", 2, 2, 3, 0)))
        self.assertEqual(certificate, slow_sinking(self.module(text), "main"))

    def test_blocks_that_no_path_reaches(self):
        text = GET + "$2 = mul i8 $1, $1 $3 = icmp eq i8 $1, i8 0 condbr $3, 1(), 2() 1(): $4 = zext i32 $2 ret $4 2(): ret i32 0 7(): $5 = zext i32 $2 ret $5"
        self.leaves(sinking, text)

    def test_random(self):
        def look(module, name, certificate, changed):
            self.assertEqual(certificate, slow_sinking(module, name))
            if all(is_reducible(graph_of(function)) for function in module[1]):
                for data in INPUTS:
                    first, second = run(module, data, fuel=500), run(changed, data, fuel=500)
                    if first[1] != ("none",):
                        self.assertLessEqual(second[2], first[2])
        self.assertGreater(self.over_random(sinking, range(250), look), 40)


class ScalarBoundsTest(unittest.TestCase):

    def test_greatest_function(self):
        module = ((), (big_function(),))
        for action in (constants, numbering, deadcode, sinking):
            certificate = shallow(lambda: action(module, "main"))
            self.assertEqual(shallow(lambda: check(module, certificate[:3]))[1], -1)

    def test_new_functions_stay(self):
        module = ((), (("main", "i32", False, ((0, (), (), ("ret", ("int", "i32", 0))),)),))
        for action in (constants, numbering, deadcode, sinking):
            self.assertEqual(action(module, "main"), ())


if __name__ == "__main__":
    unittest.main()
