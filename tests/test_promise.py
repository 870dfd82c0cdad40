"""Promise 0.1: passes in any order keep every run, and so does every certificate that check accepts."""

import random
import unittest

from burnish.check import STEPS, check
from burnish.faults import faults
from burnish.manager import PASSES, join, optimize, run_pass, whole_module
from burnish.packing import pack, unpack
from burnish.records import find_function
from goodsteps import PLAIN
from passing import random_module
from proposals import Proposer
from stepping import StepCase
from test_bounds import big_function, shallow
from test_plainloops import branchy
from test_tidy import switchy


def some_passes(rnd, module, count):
    """Return a list of random passes (word, name, amount), all of functions that stay."""
    found = []
    for _ in range(count):
        word = rnd.choice([word for word in PASSES if word != "drop"])
        name = "" if whole_module(word) else rnd.choice([function[0] for function in module[1]])
        found.append((word, name, rnd.choice((-1, -1, -1, 0, 1, 2, 5))))
    return found


def changed_value(rnd, value):
    """Return a plain value with one part changed."""
    if isinstance(value, tuple) and value and rnd.random() < 0.9:
        k = rnd.randrange(len(value))
        sort = rnd.randrange(8)
        if sort == 0:
            return value[:k] + value[k + 1:]
        if sort == 1:
            return value[:k] + (value[k],) + value[k:]
        if sort == 2:
            j = rnd.randrange(len(value))
            row = list(value)
            row[k], row[j] = row[j], row[k]
            return tuple(row)
        return value[:k] + (changed_value(rnd, value[k]),) + value[k + 1:]
    if isinstance(value, bool) or value is None or isinstance(value, tuple):
        return rnd.choice(PLAIN)
    if isinstance(value, int):
        return rnd.choice((value + 1, value - 1, 0, -1, value * 2, 1, 255, rnd.randrange(40)))
    return rnd.choice(("main", "f", "work", "pure", "round", "i8", "i32", "ptr", "add", "load", "") + tuple(STEPS))


class PromiseTest(StepCase):

    def modules(self, seed):
        return (random_module, random_module, branchy, switchy)[seed % 4](seed)

    def test_passes_in_any_order(self):
        words = set()
        for seed in range(160):
            rnd = random.Random(seed)
            module = self.modules(seed)
            passes = some_passes(rnd, module, 6)
            changed, entries = optimize(module, passes)
            self.assertEqual(faults(changed), [])
            self.assertEqual(check(module, join(entries)), (changed, -1))
            self.same_runs(module, changed)
            words.update(entry[0] for entry in entries if entry[2])
        self.assertGreater(len(words), 22)

    def test_changed_certificates(self):
        accepted = 0
        for seed in range(160):
            rnd = random.Random(1000 + seed)
            module = self.modules(seed)
            certificate = join(optimize(module, some_passes(rnd, module, 3))[1])
            for _ in range(12):
                told = certificate
                for _ in range(rnd.randrange(1, 4)):
                    told = changed_value(rnd, told)
                changed, at = check(module, told)
                if changed is None:
                    self.assertGreaterEqual(at, 0)
                    continue
                accepted += told != certificate
                self.assertEqual((at, faults(changed)), (-1, []))
                self.same_runs(module, changed)
        self.assertGreater(accepted, 150)

    def test_steps_behind_passes(self):
        for seed in range(40):
            rnd = random.Random(2000 + seed)
            module = self.modules(seed)
            first = module
            for word, name, amount in some_passes(rnd, module, 3):
                module = optimize(module, [(word, name, amount)])[0]
                proposer = Proposer(rnd, module)
                for _ in range(4):
                    step = proposer.propose(rnd.choice(proposer.words()))
                    changed = check(module, (step,))[0]
                    if changed is not None and {function[0] for function in first[1]} == {function[0] for function in changed[1]}:
                        module = changed
                        proposer = Proposer(rnd, module)
            self.assertEqual(faults(module), [])
            self.same_runs(first, module, fuel=150)

    def test_plain_values(self):
        module = random_module(7)
        for value in PLAIN:
            for certificate in (value, (value,), (value, value)):
                changed, at = check(module, certificate)
                self.assertTrue(changed == module if at == -1 else changed is None)
                self.assertEqual(unpack(pack(certificate)), certificate)

    def look_at_bounds(self, function):
        module = ((("g", False, (1, 2, 3, 4)),), (function,))
        self.assertEqual(faults(module), [])
        for word in PASSES:
            certificate = shallow(lambda: run_pass(module, word, "" if whole_module(word) else "main", 2))
            self.assertEqual(shallow(lambda: check(module, certificate[:3]))[1], -1, word)

    def test_greatest_function(self):
        self.look_at_bounds(big_function())

    def test_greatest_function_with_memory(self):
        blocks, count = [], 20
        entry = tuple((k, "alloca", "ptr", (), (8,), -1) for k in range(20))
        for k in range(2000):
            rows = [] if k else list(entry)
            for j in range(4):
                pointer = ("name", (k + j) % 20)
                rows.append((-1, "store", "i32", (("int", "i32", k), pointer), (), 1))
                rows.append((count, "load", "i32", (pointer,), (), 2))
                rows.append((count + 1, "gep", "ptr", (pointer,), (4,), -1))
                count += 2
            end = ("switch", ("name", count - 2), ((1, (k + 1, ())),), (max(k - 3, 1), ())) if 0 < k < 1999 else ("br", (1, ()))
            blocks.append((k, (), tuple(rows), end if k < 1999 else ("ret", ("name", count - 2))))
        self.look_at_bounds(("main", "i32", False, tuple(blocks)))

    def test_every_pass_keeps_traps_and_endless_runs(self):
        endless = "export main i32 { 0(): $0 = call i32 get() !1 br 1($0) 1($1 i32): call void put($1) !2 $2 = add i32 $1, i32 0 br 1($2) }"
        trap = "global g 1 export main i32 { 0(): $0 = call i32 get() !1 $1 = icmp eq i32 $0, i32 1 condbr $1, 1(), 2() 1(): $2 = load i32 @g !2 ret $2 2(): $3 = udiv i32 i32 7, $0 !3 call void put($3) !4 stop !5 }"
        for text in (endless, trap):
            module = self.module(text)
            for word in PASSES:
                changed = optimize(module, [(word, "" if whole_module(word) else "main", -1)])[0]
                self.assertIsNotNone(find_function(changed, "main"))
                self.same_runs(module, changed)


if __name__ == "__main__":
    unittest.main()
