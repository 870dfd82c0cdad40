"""Promises 6.12 to 6.14: memory facts."""

import copy
import random
import unittest

from burnish.edits import Scope
from burnish.effects import solve_effects
from burnish.faults import faults
from burnish.memfacts import holds_memory, solve_memory, through
from burnish.memory import load_value
from burnish.parse import parse_module
from burnish.records import edges
from burnish.run import Machine
from burnish.scopes import operand_kind, kinds_of
from burnish.solve import solve_values
from burnish.steps import operand_value
from burnish.values import apart, live_labels, sites_of
from samples import Maker
from shaped import Shaper
from test_bounds import big_function, shallow

SIZES = {"i1": 1, "i8": 1, "i16": 2, "i32": 4, "i64": 8, "ptr": 8}
OUTSIDE = ("outside",)
HEAD = ("global g 1 2 3 4 5 6 7 8 constant k 1 2 3 4 5 6 7 8 internal none i32 { 0(): ret i32 0 } "
        "internal frees i32 { 0(): kill null ret i32 0 } internal writes i32 { 0(): store i8 i8 1, @g !1 ret i32 0 } ")


def number(n, kind="i32"):
    return ("int", kind, n)


def name(n):
    return ("name", n)


class Slow:
    """Facts as sets, carried sentence by sentence, and tables by going round."""

    def __init__(self, module, function, values, effects):
        self.module, self.function, self.values = module, function, values
        self.effects = dict(effects)
        self.blocks = {block[0]: block for block in function[3]}
        self.live = live_labels(function, values[0])
        self.kinds = kinds_of(function)
        self.memo = {}

    def apart(self, *told):
        if told not in self.memo:
            self.memo[told] = apart(self.function, self.values, *told)
        return self.memo[told]

    def sites(self, p):
        if p not in self.memo:
            self.memo[p] = sites_of(self.function, self.values, p)
        return self.memo[p]

    def covers(self, a, b):
        return a == b or a == OUTSIDE and (b[0] == "global" or b[0] == "at" and b[1] in self.values[1])

    def meet(self, p, q):
        return any(self.covers(a, b) or self.covers(b, a) for a in self.sites(p) for b in self.sites(q))

    def exposed(self, p):
        return any(site == OUTSIDE or site[0] == "global" or site[1] in self.values[1] for site in self.sites(p))

    def through(self, facts, row):
        made, op, kind, operands, data, _ = row
        facts = set(facts)
        if op == "store":
            p = operands[1]
            facts = {fact for fact in facts if self.apart(fact[0], SIZES[fact[1]], p, SIZES[kind])}
            facts.add((p, kind, operands[0]))
        elif op == "load":
            facts.add((operands[0], kind, name(made)))
        elif op == "alloca":
            facts |= {(name(made), its, ("null",) if its == "ptr" else number(0, its)) for its in SIZES if SIZES[its] <= data[0]}
        elif op == "kill" or op == "call" and data == ("free",):
            facts = {fact for fact in facts if not self.meet(fact[0], operands[0])}
        elif op == "call" and data[0] not in ("get", "put", "exit", "malloc"):
            if set(self.effects[data[0]]) & {"frees", "writes"}:
                facts = {fact for fact in facts if not self.exposed(fact[0])}
        return facts

    def at_end(self, label, facts):
        for row in self.blocks[label][2]:
            facts = self.through(facts, row)
        return facts

    def lands(self):
        """Return (source, target, args) for each edge that is not dead, from a live label."""
        for label in self.live:
            for slot, (target, args) in enumerate(edges(self.blocks[label][3])):
                if (label, slot) not in self.values[0]:
                    yield label, target, args

    def before(self, target, args, fact):
        given = {name(param): arg for (param, _), arg in zip(self.blocks[target][1], args)}
        return (given.get(fact[0], fact[0]), fact[1], given.get(fact[2], fact[2]))

    def operands(self):
        found = set()
        for block in self.function[3]:
            found |= {name(param) for param, _ in block[1]}
            for row in block[2]:
                found |= set(row[3]) | ({name(row[0])} if row[0] >= 0 else set())
            for _, args in edges(block[3]):
                found |= set(args)
        return found | {number(0, kind) for kind in SIZES if kind != "ptr"} | {("null",)}

    def largest(self):
        """Return the largest table: all facts that may stand, less those that an edge lacks."""
        scope = Scope(self.function)
        operands = sorted(self.operands())
        kinds = {operand: operand_kind(self.kinds, operand) for operand in operands}
        told = {}
        for label in self.live:
            may = [operand for operand in operands if scope.outer(operand, label) or scope.places[operand[1]] == (label, -1)]
            told[label] = {(p, kinds[v], v) for p in may if kinds[p] == "ptr" for v in may}
        told[self.function[3][0][0]] = set()
        lands = list(self.lands())
        changed = True
        while changed:
            changed = False
            for source, target, args in lands:
                end = self.at_end(source, told[source])
                kept = {fact for fact in told[target] if self.before(target, args, fact) in end}
                if kept != told[target]:
                    told[target] = kept
                    changed = True
        return tuple((label, tuple(sorted(told[label]))) for label in sorted(told) if told[label])


def tables(module, function):
    values = solve_values(module, function)
    return values, solve_effects(module)


class ThroughTest(unittest.TestCase):

    def look(self, rows, before, behind, *, values=None, at=-1, params=""):
        """Look what facts stand behind the last instruction of the entry."""
        module = parse_module(HEAD + f"export main i32 {{ 9(): br 0() 0(): {rows} ret i32 0 }}")
        self.assertEqual(faults(module), [])
        function = module[1][-1]
        solved, effects = tables(module, function)
        values = values or solved
        row = function[3][1][2][at]
        facts = tuple(sorted(before))
        found = through(module, function, values, effects, facts, row)
        self.assertIsInstance(found, list)
        self.assertEqual(found, sorted(behind))
        self.assertEqual(sorted(Slow(module, function, values, effects).through(facts, row)), found)
        self.assertEqual(facts, tuple(sorted(before)))

    ALLOCAS = "$0 = alloca 16 $1 = gep $0, 4 $2 = gep $0, 8 $3 = alloca 4 $4 = call ptr malloc(i64 8) !1 $5 = load ptr @g !2 "
    G = (("global", "g"), "i32", number(1))
    ZERO = (name(0), "i32", number(2))
    FOUR = (name(1), "i32", number(3))
    THREE = (name(3), "i32", number(4))
    HEAP = (name(4), "i32", number(5))
    OUT = (name(5), "i32", number(6))
    ALL = (G, ZERO, FOUR, THREE, HEAP, OUT)

    def without(self, *gone):
        return [fact for fact in self.ALL if fact not in gone]

    def test_stores(self):
        add = lambda p, v, kind="i32": [(p, kind, v)]
        self.look(self.ALLOCAS + "store i32 i32 9, $0 !3", self.ALL, self.without(self.ZERO) + add(name(0), number(9)))
        self.look(self.ALLOCAS + "store i64 i64 9, $0 !3", self.ALL, self.without(self.ZERO, self.FOUR) + add(name(0), number(9, "i64"), "i64"))
        self.look(self.ALLOCAS + "store i32 i32 9, $2 !3", self.ALL, self.without() + add(name(2), number(9)))
        self.look(self.ALLOCAS + "store i32 i32 9, $3 !3", self.ALL, self.without(self.THREE) + add(name(3), number(9)))
        self.look(self.ALLOCAS + "store i32 i32 9, @g !3", self.ALL, self.without(self.G, self.OUT) + add(("global", "g"), number(9)))
        self.look(self.ALLOCAS + "store i32 i32 9, $5 !3", self.ALL, self.without(self.G, self.OUT) + add(name(5), number(9)))
        self.look(self.ALLOCAS + "store ptr $5, $5 !3", self.ALL, self.without(self.G, self.OUT) + [(name(5), "ptr", name(5))])
        # An own name that escaped may be what a pointer from outside leads to.
        self.look(self.ALLOCAS + "store ptr $3, @g !4 store i32 i32 9, $5 !3", self.ALL, self.without(self.G, self.OUT, self.THREE) + add(name(5), number(9)))
        # The same fact again.
        self.look(self.ALLOCAS + "store i32 i32 2, $0 !3", self.ALL, self.ALL)

    def test_loads(self):
        self.look(self.ALLOCAS + "$9 = load i32 $5 !3", self.ALL, self.without() + [(name(5), "i32", name(9))])
        self.look(self.ALLOCAS + "$9 = load ptr @g !3", (), [(("global", "g"), "ptr", name(9))])

    def test_allocas(self):
        for size, kinds in ((1, ("i1", "i8")), (2, ("i1", "i8", "i16")), (3, ("i1", "i8", "i16")), (4, ("i1", "i8", "i16", "i32")),
                            (7, ("i1", "i8", "i16", "i32")), (8, tuple(SIZES)), (4096, tuple(SIZES))):
            made = [(name(9), kind, ("null",) if kind == "ptr" else number(0, kind)) for kind in kinds]
            self.look(self.ALLOCAS + f"$9 = alloca {size}", self.ALL, self.without() + made)

    def test_kills_and_frees(self):
        for row in ("kill {}", "call void free({}) !3"):
            self.look(self.ALLOCAS + row.format("$0"), self.ALL, self.without(self.ZERO, self.FOUR))
            self.look(self.ALLOCAS + row.format("$4"), self.ALL, self.without(self.HEAP))
            self.look(self.ALLOCAS + row.format("$5"), self.ALL, self.without(self.G, self.OUT))
            self.look(self.ALLOCAS + row.format("@g"), self.ALL, self.without(self.G, self.OUT))
            self.look(self.ALLOCAS + row.format("@k"), self.ALL, self.without(self.OUT))
            self.look(self.ALLOCAS + row.format("null"), self.ALL, self.ALL)
        self.look(self.ALLOCAS + "store ptr $3, @g !4 kill $5", self.ALL, self.without(self.G, self.OUT, self.THREE))
        self.look(self.ALLOCAS + "store ptr $3, @g !4 kill $3", self.ALL, self.without(self.OUT, self.THREE))

    def test_calls(self):
        for row in ("$9 = call i32 get() !3", "call void put(i32 1) !3", "call void exit(i32 1) !3", "$9 = call ptr malloc(i64 1) !3", "$9 = call i32 none() !3"):
            self.look(self.ALLOCAS + row, self.ALL, self.ALL)
        for callee in ("frees", "writes"):
            self.look(self.ALLOCAS + f"$9 = call i32 {callee}() !3", self.ALL, self.without(self.G, self.OUT))
            self.look(self.ALLOCAS + f"store ptr $3, @g !4 $9 = call i32 {callee}() !3", self.ALL, self.without(self.G, self.OUT, self.THREE))

    def test_nothing_else(self):
        for row in ("$9 = add i32 i32 1, i32 2", "$9 = gep $0, 1", "$9 = select ptr i1 1, $0, $3", "$9 = udiv i32 i32 1, i32 0 !3", "$9 = icmp eq ptr $0, $3"):
            self.look(self.ALLOCAS + row, self.ALL, self.ALL)

    def test_long_chains_of_geps(self):
        chain = "$0 = alloca 64 " + " ".join(f"${k} = gep ${k - 1}, 4" for k in range(1, 13)) + " "
        facts = [(name(k), "i32", number(k)) for k in range(13)]
        # At most 8 geps are looked at: from 12 the facts of 4 and more are apart, from 3 those of 11 and less.
        for at in range(13):
            met = [k for k in range(13) if k == at or not self.share(k, at)]
            behind = [fact for k, fact in enumerate(facts) if k not in met] + [(name(at), "i32", number(99))]
            self.look(chain + f"store i32 i32 99, ${at} !1", facts, behind)

    def share(self, a, b):
        """Tell whether two of the geps lead to one operand by at most 8 geps each."""
        return max(a - 8, b - 8, 0) <= min(a, b)

    def test_effects_are_taken_from_the_table(self):
        module = parse_module(HEAD + "export main i32 { 0(): $1 = call i32 none() !1 ret i32 0 }")
        function = module[1][-1]
        fact = (("global", "g"), "i8", number(1, "i8"))
        row = function[3][0][2][0]
        for effects, behind in ((("reads", "io", "traps", "loops"), [fact]), (("frees",), []), (("writes",), [])):
            table = tuple((f[0], tuple(sorted(effects)) if f[0] == "none" else ()) for f in module[1])
            self.assertEqual(through(module, function, ((), (), ()), table, [fact], row), behind)


class MemoryTest(unittest.TestCase):

    def look(self, rows, *expected):
        module = parse_module(HEAD + "export main i32 { " + rows + " }")
        self.assertEqual(faults(module), [])
        function = module[1][-1]
        values, effects = tables(module, function)
        found = solve_memory(module, function, values, effects)
        self.assertEqual(found, expected)
        self.assertEqual(Slow(module, function, values, effects).largest(), found)
        self.assertIs(holds_memory(module, function, values, effects, found), True)
        return module, function, values, effects

    def test_a_fact_goes_on(self):
        self.look("0(): store i32 i32 5, @g !1 br 1() 1(): $0 = load i32 @g !2 ret $0", (1, ((("global", "g"), "i32", number(5)),)))
        self.look("0(): store i32 i32 5, @g !1 $0 = call i32 writes() !2 br 1() 1(): ret i32 0")

    def test_params_stand_for_arguments(self):
        self.look("0(): $0 = call i32 get() !1 store i32 $0, @g !2 br 1($0) 1($1 i32): ret $1",
                  (1, ((("global", "g"), "i32", name(0)), (("global", "g"), "i32", name(1)))))
        self.look("0(): store i32 i32 5, @g !2 br 1(@g, i32 5, i32 6) 1($1 ptr, $2 i32, $3 i32): ret $2",
                  (1, ((("global", "g"), "i32", number(5)), (("global", "g"), "i32", name(2)), (name(1), "i32", number(5)), (name(1), "i32", name(2)))))

    def test_two_edges(self):
        text = "0(): $0 = call i32 get() !1 $1 = icmp eq i32 $0, i32 0 condbr $1, 1(), 2() 1(): store i32 i32 5, @g !2 br 3(i32 5) {} 3($2 i32): ret $2"
        self.look(text.format("2(): store i32 i32 6, @g !3 br 3(i32 6)"), (3, ((("global", "g"), "i32", name(2)),)))
        self.look(text.format("2(): store i32 i32 5, @g !3 br 3(i32 5)"), (3, ((("global", "g"), "i32", number(5)), (("global", "g"), "i32", name(2)))))
        self.look(text.format("2(): br 3(i32 5)"))
        self.look(text.format("2(): store i32 i32 5, @g !3 br 3(i32 6)"), (3, ((("global", "g"), "i32", number(5)),)))

    def test_loops(self):
        self.look("0(): store i32 i32 0, @g !1 br 1(i32 0) 1($0 i32): $1 = add i32 $0, i32 1 store i32 $1, @g !2 br 1($1)",
                  (1, ((("global", "g"), "i32", name(0)),)))
        # Names of the loop itself do not stand at its beginning.
        self.look("0(): br 1(i32 0) 1($0 i32): $1 = load i32 @g !2 br 1($1)")
        # The facts of an alloca inside of a loop are made anew.
        self.look("0(): br 1() 1(): $1 = alloca 1 br 2() 2(): store i8 i8 1, $1 !1 br 1()",
                  (2, ((name(1), "i1", number(0, "i1")), (name(1), "i8", number(0, "i8")))))

    def test_dead_edges_and_labels_that_are_not_live(self):
        self.look("0(): store i32 i32 5, @g !1 condbr i1 1, 1(), 2() 1(): br 3() 2(): store i32 i32 6, @g !2 br 3() 3(): ret i32 0",
                  (1, ((("global", "g"), "i32", number(5)),)), (3, ((("global", "g"), "i32", number(5)),)))

    def test_names_that_are_defined_on_live_ways_alone(self):
        # Along the only edge that is taken the name is there, but its block does not dominate the target.
        module, function, values, effects = self.look("0(): condbr i1 1, 1(), 2() 1(): $0 = load i32 @g !1 br 3() 2(): br 3() 3(): ret i32 0")
        self.assertIs(holds_memory(module, function, values, effects, ((3, ((("global", "g"), "i32", name(0)),)),)), False)

    def test_labels_that_no_dead_edge_tells_of(self):
        # The table says that one edge is dead; what follows behind it is not live, though its edges are not told to be dead.
        module, function, solved, effects = self.look("0(): store i32 i32 5, @g !1 condbr i1 1, 1(), 2() 1(): br 3() 2(): store i32 i32 6, @g !2 br 3() 3(): ret i32 0",
                                                      (1, ((("global", "g"), "i32", number(5)),)), (3, ((("global", "g"), "i32", number(5)),)))
        values = (((0, 1),), (), ())
        fact = (("global", "g"), "i32", number(5))
        self.assertEqual(solve_memory(module, function, values, effects), ((1, (fact,)), (3, (fact,))))
        self.assertIs(holds_memory(module, function, values, effects, ((1, (fact,)), (3, (fact,)))), True)
        self.assertIs(holds_memory(module, function, values, effects, ((2, (fact,)),)), False)

    def test_the_entry_has_no_facts(self):
        module, function, values, effects = self.look("0(): $0 = load i8 @g !1 ret i32 0")
        fact = (("global", "g"), "i8", number(1, "i8"))
        self.assertIs(holds_memory(module, function, values, effects, ()), True)
        self.assertIs(holds_memory(module, function, values, effects, ((0, (fact,)),)), False)

    def test_the_other_tables_must_hold(self):
        module, function, values, effects = self.look("0(): $9 = alloca 4 $0 = call i32 get() !1 br 1() 1(): ret i32 0", *self.zeros(1, 9))
        self.assertIs(holds_memory(module, function, ((), (9,), ()), effects, ()), True)
        self.assertIs(holds_memory(module, function, ((), (), ((0, (0, 0, 0, 0)),)), effects, ()), False)
        self.assertIs(holds_memory(module, function, values, effects[1:], ()), False)
        self.assertIs(holds_memory(module, function, values, tuple((f[0], ()) for f in module[1]), ()), False)
        self.assertIs(holds_memory(module, function, values, tuple((f[0], ("frees", "io", "writes", "traps")[:0] or ("frees", "io", "traps", "writes")) for f in module[1]), ()), True)

    def zeros(self, label, made):
        return ((label, tuple((name(made), kind, number(0, kind)) for kind in ("i1", "i16", "i32", "i8"))),)

    def test_tables_that_claim_too_much(self):
        module, function, values, effects = self.look(
            "0(): store i32 i32 5, @g !1 br 1(i32 5) 1($0 i32): ret $0",
            (1, ((("global", "g"), "i32", number(5)), (("global", "g"), "i32", name(0)))))
        fact = (("global", "g"), "i32", number(5))
        holds = lambda *facts: holds_memory(module, function, values, effects, ((1, tuple(facts)),))
        self.assertIs(holds(fact), True)
        self.assertIs(holds((("global", "g"), "i32", name(0))), True)
        self.assertIs(holds((("global", "g"), "i32", number(6))), False)
        self.assertIs(holds((("global", "g"), "i8", number(5, "i8"))), False)
        self.assertIs(holds((("global", "k"), "i32", number(5))), False)
        self.assertIs(holds(fact, fact), False)
        self.assertIs(holds(), False)

    def test_forms(self):
        module, function, values, effects = self.look("0(): $0 = alloca 1 br 1() 1(): $1 = alloca 1 br 2() 2(): ret i32 0 3(): br 3()",
                                                      (1, ((name(0), "i1", number(0, "i1")), (name(0), "i8", number(0, "i8")))),
                                                      (2, tuple((name(n), kind, number(0, kind)) for n in (0, 1) for kind in ("i1", "i8"))))
        one = (name(0), "i8", number(0, "i8"))
        good = ((1, (one,)),)
        self.assertIs(holds_memory(module, function, values, effects, good), True)
        self.assertIs(holds_memory(module, function, values, effects, ((1, (one,)), (2, (one,)))), True)
        for table in (None, 1, "x", True, [(1, (one,))], ((1, [one]),), ((1, (list(one),)),), ((1, ()),), ((2, (one,)), (1, (one,))),
                      ((1, (one,)), (1, (one,))), ((3, (one,)),), ((7, (one,)),), ((True, (one,)),), ((1, ((name(1), "i8", number(0, "i8")),)),),
                      ((1, ((name(0), "i8", number(0, "i1")),)),), ((1, ((name(0), "i9", number(0, "i8")),)),), ((1, ((name(8), "i8", number(0, "i8")),)),),
                      ((1, ((number(0), "i8", number(0, "i8")),)),), ((1, ((name(0), "i8"),)),), ((1, ((name(0), "i8", number(256, "i8")),)),),
                      ((1, ((name(0), "i8", name(0)),)),), ((1, (one, (name(0), "i1", number(0, "i1")))),), ((1,),), ((1, (one,), 0),)):
            self.assertIs(holds_memory(module, function, values, effects, table), False, table)


class RandomTest(unittest.TestCase):

    def samples(self, count):
        for seed in range(count):
            rnd = random.Random(seed)
            module = Shaper(rnd, statements=4, depth=1).module() if seed % 3 else Maker(rnd, blocks=5, rows=4).module()
            for function in module[1]:
                yield seed, module, function

    def test_largest_table_and_it_holds(self):
        sizes = 0
        for seed, module, function in self.samples(150):
            before = copy.deepcopy((module, function))
            values, effects = tables(module, function)
            table = solve_memory(module, function, values, effects)
            self.assertEqual((module, function), before)
            self.assertIs(holds_memory(module, function, values, effects, table), True)
            if len(kinds_of(function)) < 40:
                self.assertTrue(Slow(module, function, values, effects).largest() == table, seed)
            sizes += len(table)
        self.assertGreater(sizes, 150)

    def test_tables_with_fewer_and_with_other_facts(self):
        refused = 0
        for seed, module, function in self.samples(80):
            rnd = random.Random(seed)
            values, effects = tables(module, function)
            table = solve_memory(module, function, values, effects)
            slow = Slow(module, function, values, effects)
            for _ in range(6):
                rows = []
                for label, facts in table:
                    kept = [fact for fact in facts if rnd.random() < 0.8]
                    if kept and rnd.random() < 0.3:
                        k = rnd.randrange(len(kept))
                        p, kind, v = kept[k]
                        kept[k] = (p, kind, ("null",) if kind == "ptr" else number(1, kind))
                        kept = sorted(set(kept))
                    if kept:
                        rows.append((label, tuple(kept)))
                told = dict(rows)
                due = all(slow.before(target, args, fact) in slow.at_end(source, told.get(source, ())) for source, target, args in slow.lands()
                          for fact in told.get(target, ()))
                self.assertIs(holds_memory(module, function, values, effects, tuple(rows)), due)
                refused += not due
        self.assertGreater(refused, 20)

    def test_facts_are_true_of_runs(self):
        looked_at = 0
        for seed in range(120):
            module = Shaper(random.Random(seed)).module()
            told = {}
            for function in module[1]:
                values, effects = tables(module, function)
                told[function[0]] = dict(solve_memory(module, function, values, effects))
            machine = Machine(module, [65, 1, 0, 9])
            while machine.end == ("none",) and machine.steps < 400:
                state = machine.state
                frame = state[0][-1]
                if frame[2] == 0:
                    for p, kind, v in told[frame[0]].get(frame[1], ()):
                        pointer, value = operand_value(module, frame, p), operand_value(module, frame, v)
                        self.assertEqual(load_value(state[1], pointer, kind), value)
                        looked_at += 1
                machine.go(fuel=1)
        self.assertGreater(looked_at, 500)


class BoundsTest(unittest.TestCase):

    def test_greatest_function(self):
        function = big_function(rows=9)
        blocks = tuple(block[:2] + (block[2] + ((-1, "store", "i8", (("name", block[2][0][0]), ("global", "g")), (), 1),),) + block[3:]
                       if k % 2 else block for k, block in enumerate(function[3]))
        function = function[:3] + (blocks,)
        module = ((("g", False, (1,)),), (function,))
        values, effects = tables(module, function)
        table = shallow(lambda: solve_memory(module, function, values, effects))
        self.assertIs(shallow(lambda: holds_memory(module, function, values, effects, table)), True)

    def test_many_pointers(self):
        rows = ((0, "alloca", "ptr", (), (4096,), -1),)
        rows += tuple((k, "gep", "ptr", (("name", 0),), (k % 4000,), -1) for k in range(1, 9000))
        rows += tuple((-1, "store", "i8", (number(k % 200, "i8"), name(k)), (), k) for k in range(1, 9000))
        function = ("main", "i32", False, ((0, (), rows, ("br", (1, ()))), (1, (), (), ("ret", number(0)))))
        module = ((), (function,))
        values, effects = tables(module, function)
        table = shallow(lambda: solve_memory(module, function, values, effects))
        self.assertEqual(len(table), 1)
        self.assertIs(shallow(lambda: holds_memory(module, function, values, effects, table)), True)


if __name__ == "__main__":
    unittest.main()
