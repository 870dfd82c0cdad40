"""Promise 6.11: effect tables."""

import copy
import random
import unittest

from burnish.effects import holds_effects, solve_effects
from burnish.faults import faults
from burnish.parse import parse_module
from burnish.run import Machine
from samples import Maker
from shaped import Shaper
from test_bounds import shallow

WORDS = ("frees", "io", "loops", "reads", "traps", "writes")
OTHER_VALUES = (None, True, 0, "x", (), (0,), ("main",), (("main",),), (("main", ()), ("main", ())), (("main", "io"),), (("main", ("io", "frees")),),
                (("main", ("io", "io")),), (("main", ("nothing",)),), (("main", (1,)),), (("main", (), ()),), ((1, ()),), [("main", ())])


def slow_effects(module):
    """Return the least table, found by going round until nothing changes."""
    reached, calls, found = {}, {}, {}
    for name, _, _, blocks in module[1]:
        seen, waiting = set(), [blocks[0][0]]
        while waiting:
            label = waiting.pop()
            if label not in seen:
                seen.add(label)
                waiting += targets(blocks, label)
        reached[name] = [block for block in blocks if block[0] in seen]
        calls[name] = {row[4][0] for block in reached[name] for row in block[2] if row[1] == "call"} & {f[0] for f in module[1]}
        found[name] = set()
        for block in reached[name]:
            if leads_to(blocks, block[0], block[0]):
                found[name].add("loops")
            if block[3][0] == "stop":
                found[name].add("traps")
            for row in block[2]:
                found[name] |= own_effects(module, blocks, row)
    changed = True
    while changed:
        changed = False
        for name in found:
            for callee in calls[name]:
                told = found[callee] | ({"loops"} if calls_lead(calls, callee, name) else set())
                if not told <= found[name]:
                    found[name] |= told
                    changed = True
    return tuple((f[0], tuple(sorted(found[f[0]]))) for f in module[1])


def targets(blocks, label):
    end = [block for block in blocks if block[0] == label][0][3]
    if end[0] == "br":
        return [end[1][0]]
    if end[0] == "condbr":
        return [end[2][0], end[3][0]]
    return [edge[0] for _, edge in end[2]] + [end[3][0]] if end[0] == "switch" else []


def leads_to(blocks, start, goal):
    seen, waiting = set(), targets(blocks, start)
    while waiting:
        label = waiting.pop()
        if label not in seen:
            seen.add(label)
            waiting += targets(blocks, label)
    return goal in seen


def calls_lead(calls, start, goal):
    seen, waiting = set(), [start]
    while waiting:
        name = waiting.pop()
        if name not in seen:
            seen.add(name)
            waiting += calls[name]
    return goal in seen


def own_effects(module, blocks, row):
    _, op, kind, operands, data, _ = row
    if op == "load":
        pointer, offset = operands[0], 0
        for block in blocks:
            for other in block[2]:
                if pointer == ("name", other[0]) and other[1] == "gep" and len(other[3]) == 1:
                    return own_effects_of_load(module, kind, other[3][0], other[4][0])
        return own_effects_of_load(module, kind, pointer, offset)
    if op == "store":
        return {"writes", "traps"}
    if op == "kill":
        return {"frees"}
    if op == "call":
        return {"free": {"frees", "traps"}, "get": {"io"}, "put": {"io"}, "exit": {"io"}}.get(data[0], set())
    if op in ("udiv", "sdiv", "urem", "srem") and (operands[1][0] != "int" or operands[1][2] == 0):
        return {"traps"}
    return set()


def own_effects_of_load(module, kind, pointer, offset):
    sizes = {"i1": 1, "i8": 1, "i16": 2, "i32": 4, "i64": 8}
    for name, constant, values in module[0]:
        if pointer == ("global", name) and constant and kind != "ptr" and 0 <= offset <= len(values) - sizes[kind]:
            return {"reads"}
    return {"reads", "traps"}


def module_of(rows, kind="i32", head=""):
    """Return a module whose function f has these instructions."""
    return parse_module("global g 1 2 3 4 constant k 1 2 3 4 " + head + " internal f i32 { 0($0 ptr, $1 i32): " + rows
                        + " } export main i32 { 0(): ret i32 0 }")


class EffectsTest(unittest.TestCase):

    def look(self, rows, *effects, head=""):
        module = module_of(rows, head=head)
        self.assertEqual(faults(module), [])
        table = solve_effects(module)
        self.assertEqual(dict(table)["f"], effects, rows)
        self.assertEqual(table, slow_effects(module))
        self.assertIs(holds_effects(module, table), True)

    def test_each_op(self):
        for rows in ("$9 = add i32 $1, i32 1", "$9 = icmp eq i32 $1, i32 1", "$9 = select i32 i1 1, $1, $1", "$9 = gep $0, 4", "$9 = alloca 8",
                     "$9 = zext i64 $1", "$9 = call ptr malloc(i64 4) !1", "$9 = shl i32 $1, $1"):
            self.look(rows + " ret i32 0")
        self.look("$9 = load i8 $0 !1 ret i32 0", "reads", "traps")
        self.look("store i8 i8 1, $0 !1 ret i32 0", "traps", "writes")
        self.look("kill $0 ret i32 0", "frees")
        self.look("call void free($0) !1 ret i32 0", "frees", "traps")
        self.look("$9 = call i32 get() !1 ret i32 0", "io")
        self.look("call void put($1) !1 ret i32 0", "io")
        self.look("call void exit($1) !1 ret i32 0", "io")
        self.look("stop !1", "traps")

    def test_divisions(self):
        for op in ("udiv", "sdiv", "urem", "srem"):
            self.look(f"$9 = {op} i32 $1, i32 7 !1 ret i32 0")
            self.look(f"$9 = {op} i32 $1, i32 0 !1 ret i32 0", "traps")
            self.look(f"$9 = {op} i32 i32 7, $1 !1 ret i32 0", "traps")

    def test_loads_from_constants(self):
        for pointer, kind in (("@k", "i8"), ("@k", "i32"), ("@k", "i1"), ("@k", "i16")):
            self.look(f"$9 = load {kind} {pointer} !1 ret i32 0", "reads")
        for pointer, kind in (("@k", "i64"), ("@k", "ptr"), ("@g", "i8"), ("null", "i8")):
            self.look(f"$9 = load {kind} {pointer} !1 ret i32 0", "reads", "traps")
        for offset, kind, safe in ((3, "i8", True), (2, "i16", True), (0, "i32", True), (3, "i16", False), (4, "i8", False), (-1, "i8", False), (1, "i32", False)):
            self.look(f"$8 = gep @k, {offset} $9 = load {kind} $8 !1 ret i32 0", *(("reads",) if safe else ("reads", "traps")))
        self.look("$8 = gep @k, 0, i64 0 * 1 $9 = load i8 $8 !1 ret i32 0", "reads", "traps")
        self.look("$7 = gep @k, 0 $8 = gep $7, 0 $9 = load i8 $8 !1 ret i32 0", "reads", "traps")
        self.look("$8 = gep @g, 0 $9 = load i8 $8 !1 ret i32 0", "reads", "traps")

    def test_loops(self):
        self.look("br 1() 1(): br 1()", "loops")
        self.look("br 1() 1(): condbr i1 0, 2(), 3() 2(): br 1() 3(): ret i32 0", "loops")
        self.look("condbr i1 0, 1(), 2() 1(): br 3() 2(): br 3() 3(): ret i32 0")
        # A cycle that the entry does not reach.
        self.look("ret i32 0 1(): br 1()")

    def test_blocks_that_are_not_reached(self):
        self.look("ret i32 0 1(): store i8 i8 1, $0 !1 kill $0 $9 = call i32 f(null, i32 0) !2 stop !3")
        self.look("$9 = call i32 h() !1 ret i32 0", "io", head="internal h i32 { 0(): call void put(i32 1) !1 ret i32 1 1(): stop !2 }")

    def test_calls(self):
        head = "internal h i32 { 0($0 ptr): kill $0 $1 = load i8 $0 !1 ret i32 0 }"
        self.look("$9 = call i32 h($0) !1 ret i32 0", "frees", "reads", "traps", head=head)
        self.look("ret i32 0 2(): $9 = call i32 h($0) !1 ret i32 0", head=head)
        self.look("$9 = call i32 f($0, $1) !1 ret i32 0", "loops")
        self.look("$9 = call i32 h() !1 ret i32 0", "loops", head="internal h i32 { 0(): $9 = call i32 f(null, i32 0) !1 ret i32 0 }")
        # h calls itself; f only calls h, but a call has the callee's effects.
        self.look("$9 = call i32 h() !1 ret i32 0", "loops", head="internal h i32 { 0(): $9 = call i32 h() !1 ret i32 0 }")
        # A call in a block that is not reached leads nowhere.
        self.look("$9 = call i32 h() !1 ret i32 0", head="internal h i32 { 0(): ret i32 0 1(): $9 = call i32 f(null, i32 0) !1 ret i32 0 }")

    def test_order_of_functions(self):
        module = parse_module("internal b void { 0(): call void a() !1 ret } export main i32 { 0(): call void b() !1 ret i32 0 } "
                              "internal a void { 0(): call void put(i32 1) !2 ret }")
        self.assertEqual(solve_effects(module), (("b", ("io",)), ("main", ("io",)), ("a", ("io",))))

    def test_tables_that_hold(self):
        module = module_of("$9 = call i32 f($0, $1) !1 kill $0 ret i32 0")
        least = (("f", ("frees", "loops")), ("main", ()))
        self.assertEqual(solve_effects(module), least)
        self.assertIs(holds_effects(module, (("f", WORDS), ("main", WORDS))), True)
        self.assertIs(holds_effects(module, (("f", ("frees", "io", "loops")), ("main", ("reads",)))), True)
        for told in ((), ("frees",), ("loops",), ("io", "loops")):
            self.assertIs(holds_effects(module, (("f", told), ("main", ()))), False)

    def test_entries_of_callees_count(self):
        module = parse_module("internal a void { 0(): ret } export main i32 { 0(): call void a() !1 ret i32 0 }")
        self.assertIs(holds_effects(module, (("a", ("io",)), ("main", ("io",)))), True)
        self.assertIs(holds_effects(module, (("a", ("io",)), ("main", ()))), False)
        self.assertIs(holds_effects(module, (("a", ()), ("main", ("io",)))), True)

    def test_forms(self):
        module = parse_module("internal a void { 0(): ret } export main i32 { 0(): ret i32 0 }")
        self.assertIs(holds_effects(module, (("a", ()), ("main", ()))), True)
        for table in ((("main", ()), ("a", ())), (("a", ()),), (("a", ()), ("main", ()), ("a", ())), (("a", ()), ("b", ())), (("a", ["io"]), ("main", ()))):
            self.assertIs(holds_effects(module, table), False)
        single = parse_module("export main i32 { 0(): ret i32 0 }")
        for table in OTHER_VALUES:
            self.assertIs(holds_effects(single, table), False, table)

    def test_random_modules(self):
        for seed in range(300):
            rnd = random.Random(seed)
            module = Shaper(rnd).module() if seed % 2 else Maker(rnd).module()
            before = copy.deepcopy(module)
            table = solve_effects(module)
            self.assertEqual(module, before)
            self.assertEqual(table, slow_effects(module))
            self.assertIs(holds_effects(module, table), True)
            for k, (name, row) in enumerate(table):
                for word in WORDS:
                    if word in row:
                        less = tuple(other for other in row if other != word)
                        calls_itself = holds_effects(module, table[:k] + ((name, less),) + table[k + 1:])
                        self.assertIs(calls_itself, False)
                    else:
                        more = tuple((n, tuple(sorted(set(r) | {word}))) for n, r in table)
                        self.assertIs(holds_effects(module, more), True)

    def test_calls_within_reads_change_nothing(self):
        looked_at = 0
        for seed in range(400):
            module = Shaper(random.Random(seed), statements=3, depth=1).module()
            table = dict(solve_effects(module))
            machine = Machine(module, [65, 3])
            before = None
            while machine.end == ("none",) and machine.steps < 300:
                state = machine.state
                frames = state[0]
                if before is not None and len(frames) <= before[0]:
                    # Nothing but new objects of the callee that are dead now.
                    old = before[1]
                    self.assertEqual(state[1][:len(old)], old)
                    before = None
                    looked_at += 1
                machine.go(fuel=1)
                later = machine.state[0]
                if before is None and len(later) > len(frames) and set(table[later[-1][0]]) <= {"reads"}:
                    before = (len(frames), state[1])
            self.assertTrue(before is None or machine.end == ("none",))
        self.assertGreater(looked_at, 5)


class BoundsTest(unittest.TestCase):

    def test_a_chain_of_functions(self):
        functions = [(f"f{k}", "void", True, ((0, (), ((-1, "call", "void", (), (f"f{k + 1}",), 1),), ("ret", None)),)) for k in range(62)]
        functions.append(("f62", "void", True, ((0, (), ((-1, "kill", "void", (("null",),), (), -1),), ("ret", None)),)))
        functions.append(("main", "i32", False, ((0, (), (), ("ret", ("int", "i32", 0))),)))
        module = ((), tuple(functions))
        table = shallow(lambda: solve_effects(module))
        self.assertEqual(table[0], ("f0", ("frees",)))
        self.assertIs(shallow(lambda: holds_effects(module, table)), True)

    def test_a_long_chain_of_blocks(self):
        blocks = tuple((k, (), ((-1, "call", "void", (("int", "i32", 1),), ("put",), 1),) * 10, ("br", (k + 1, ()))) for k in range(1999))
        module = ((), (("main", "i32", False, blocks + ((1999, (), (), ("ret", ("int", "i32", 0))),)),))
        self.assertEqual(shallow(lambda: solve_effects(module)), (("main", ("io",)),))


if __name__ == "__main__":
    unittest.main()
