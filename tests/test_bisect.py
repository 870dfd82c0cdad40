"""Promises 10.14 and 10.15: first_bad, first_parting, candidates and shrink."""

import unittest

from burnish.bisect import candidates, first_bad, first_parting, shrink
from burnish.check import check
from burnish.edits import uses
from burnish.faults import faults
from burnish.manager import join, optimize
from burnish.parse import parse_module
from burnish.records import find_function, put_function, result_kind
from burnish.run import run, same_run
from burnish.scopes import reached
from passing import random_module
from stepping import INPUTS
from test_bounds import shallow

TEXT = ("global g 1 2 3 4 global h 5 constant k 6 internal a i32 { 0($0 i32): $1 = call i32 a($0) !1 ret $1 } internal b i32 { 0(): ret i32 1 } "
        "export main i32 { 0(): $0 = call i32 get() !1 store i32 $0, @g !2 $1 = call i32 b() !3 $2 = add i32 $0, $1 $3 = icmp eq i32 $2, i32 1 condbr $3, 2(), 1($2) "
        "2(): stop !0 1($4 i32): call void put($4) !4 $5 = gep @k, 0 ret $4 7(): $6 = add i32 $0, $0 br 7() }")


def slow_candidates(module):
    """Return the list of the candidates, by the words of the document."""
    found = []
    for function in module[1]:
        others = [row for other in module[1] if other is not function for block in other[3] for row in block[2] if row[1] == "call" and row[4] == (function[0],)]
        if function[2] and not others:
            found.append((module[0], tuple(other for other in module[1] if other is not function)))
    shown = repr(module[1])
    for record in module[0]:
        if repr(("global", record[0])) not in shown:
            found.append((tuple(other for other in module[0] if other is not record), module[1]))
    for function in module[1]:
        for label in sorted(block[0] for block in function[3]):
            blocks = tuple(block[:3] + (("stop", 0),) if block[0] == label else block for block in function[3])
            if blocks != function[3]:
                changed = function[:3] + (blocks,)
                found.append(put_function(module, function[:3] + (tuple(block for block in blocks if block[0] in reached(changed)),)))
    for wanted in (False, True):
        for function in module[1]:
            for label, k in sorted((block[0], k) for block in function[3] for k in range(len(block[2]))):
                row = [block[2][k] for block in function[3] if block[0] == label][0]
                used = uses(function, row[0]) != []
                if used != wanted or wanted and result_kind(row) in ("ptr", "void"):
                    continue
                zero = ("int", result_kind(row), 0)
                text = {block[0]: (block[0], block[1], block[2][:k] + block[2][k + 1:] if block[0] == label else block[2], block[3]) for block in function[3]}
                found.append(put_function(module, replaced(function[:3] + (tuple(text[block[0]] for block in function[3]),), ("name", row[0]), zero)))
    return found


def replaced(value, old, new):
    """Return a nested tuple with each part that equals another one replaced."""
    if value == old and isinstance(value, tuple):
        return new
    return tuple(replaced(item, old, new) for item in value) if isinstance(value, tuple) else value


def measure(module):
    blocks = [block for function in module[1] for block in function[3]]
    return (len(module[1]), len(module[0]), len(blocks), sum(block[3] != ("stop", 0) for block in blocks), sum(len(block[2]) for block in blocks))


class CandidatesTest(unittest.TestCase):

    def test_order(self):
        module = parse_module(TEXT)
        found = list(candidates(module))
        self.assertEqual(found, slow_candidates(module))
        self.assertEqual([function[0] for function in found[0][1]], ["b", "main"])
        self.assertEqual([record[0] for record in found[1][0]], ["g", "k"])
        # Ends of a, b, and of main by label; block 2 stops already.
        ends = [find_function(changed, name)[3] for changed, name in zip(found[2:7], ("a", "b", "main", "main", "main"))]
        self.assertEqual([[(block[0], block[3][0]) for block in row] for row in ends], [[(0, "stop")], [(0, "stop")], [(0, "stop")], [(0, "condbr"), (2, "stop"), (1, "stop")], [(0, "condbr"), (2, "stop"), (1, "ret")]])
        # Without a result that is used: the store, put, the gep; then the results of integers.
        self.assertEqual([measure(changed)[4] for changed in found[7:]], [measure(module)[4] - 1] * (len(found) - 7))
        self.assertEqual(len(found) - 7, 4 + 5)

    def test_random(self):
        for seed in range(80):
            module = random_module(seed)
            found = list(candidates(module))
            self.assertEqual(found, slow_candidates(module))
            for changed in found:
                self.assertEqual(faults(changed), [])
                self.assertLess(measure(changed), measure(module))

    def test_nothing_left(self):
        self.assertEqual(list(candidates(parse_module("export main i32 { 0(): stop !0 }"))), [])
        self.assertEqual(len(list(candidates(parse_module("export main i32 { 0(): stop !1 }")))), 1)


class ShrinkTest(unittest.TestCase):

    def test_shrink(self):
        module = parse_module(TEXT)
        changed = shrink(module, lambda other: any(row[1] == "store" for function in other[1] for block in function[3] for row in block[2]))
        self.assertEqual(changed, parse_module("global g 1 2 3 4 export main i32 { 0(): store i32 i32 0, @g !2 stop !0 }"))
        self.assertEqual(shrink(module, lambda other: False), module)
        self.assertEqual(shrink(module, lambda other: True), parse_module("export main i32 { 0(): stop !0 }"))
        self.assertEqual(shrink(module, lambda other: other == module), module)

    def test_random(self):
        for seed in range(12):
            module = random_module(seed, statements=3, depth=1)
            due = run(module, [1, 2], fuel=200)

            def wrong(other):
                return faults(other) == [] and run(other, [1, 2], fuel=200)[:2] == due[:2]

            changed = shallow(lambda: shrink(module, wrong))
            self.assertTrue(wrong(changed))
            self.assertFalse(any(wrong(other) for other in candidates(changed)))
            slow = module
            while [other for other in slow_candidates(slow) if wrong(other)]:
                slow = [other for other in slow_candidates(slow) if wrong(other)][0]
            self.assertEqual(changed, slow)


class FirstTest(unittest.TestCase):

    def test_first_bad(self):
        module = parse_module("export main i32 { 0(): $0 = call i32 get() !1 $1 = add i32 $0, i32 0 $2 = mul i32 $1, i32 1 br 1() 1(): ret $2 2(): ret i32 0 }")
        changed, entries = optimize(module, [("combine", "main", 1), ("tidy", "main", 1), ("combine", "main", -1), ("tidy", "main", -1)])
        modules = [module]
        for entry in entries:
            modules.append(check(modules[-1], entry[2])[0])
        for k, other in enumerate(modules):
            self.assertEqual(first_bad(module, entries, lambda told: told == other), modules.index(other))
        self.assertEqual(first_bad(module, entries, lambda told: False), -1)
        self.assertEqual(first_bad(module, entries, lambda told: True), 0)
        self.assertEqual(first_bad(module, [], lambda told: True), 0)
        self.assertEqual(first_bad(module, [], lambda told: False), -1)
        # Wrong for some of them, right again behind them.
        self.assertEqual(first_bad(module, entries, lambda told: told in (modules[2], modules[4])), 2)
        self.assertEqual(check(module, join(entries))[0], changed)
        # Nothing is wrong behind a certificate that leads nowhere.
        self.assertEqual(first_bad(module, entries[:1] + [("tidy", "main", (("prune", "none"),))] + entries, lambda told: told == modules[2]), -1)

    def test_first_parting(self):
        texts = ["ret $0", "br 1() 1(): ret $0", "ret i32 5", "stop !1"]
        modules = [parse_module("export main i32 { 0(): $0 = call i32 get() !1 " + text + " }") for text in texts]
        self.assertEqual(first_parting(modules, [[1], [5]], 50), 2)
        self.assertEqual(first_parting(modules, [[5]], 50), 3)
        self.assertEqual(first_parting(modules[:2], [[1], [5], []], 50), -1)
        self.assertEqual(first_parting(modules[:1], [[1]], 50), -1)
        self.assertEqual(first_parting(modules, [], 50), -1)
        # Nothing parts before a run has an end.
        self.assertEqual(first_parting(modules, [[1], [5]], 1), -1)
        self.assertEqual(first_parting([modules[0]] * 3 + [modules[3]], [[0], [1]], 50), 3)

    def test_parting_of_random_modules(self):
        for seed in range(40):
            module = random_module(seed)
            found = [module] + list(candidates(module))[:12]
            due = [k for k, other in enumerate(found) if not all(same_run(run(other, data, fuel=120), run(module, data, fuel=120)) for data in INPUTS)]
            self.assertEqual(first_parting(found, list(INPUTS), 120), due[0] if due else -1)


if __name__ == "__main__":
    unittest.main()
