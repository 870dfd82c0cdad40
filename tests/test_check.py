"""Promises 0.1, 7.1, 7.2 and 7.31: the kernel, and what its steps promise."""

import collections
import copy
import random
import unittest

from burnish.check import STEPS, apply_step, check
from burnish.faults import faults
from burnish.forms import has_shape
from burnish.parse import parse_module
from burnish.run import run, same_run
from goodsteps import GOOD, PLAIN
from goodsteps import STEPS as SHAPED
from proposals import Proposer
from samples import Maker
from shaped import Shaper
from stepping import INPUTS, StepCase, size
from test_bounds import big_function, shallow

TEXT = "0(): $0 = call i32 get() !1 $1 = add i32 $0, i32 0 $2 = mul i32 $1, i32 8 br 1($2) 1($3 i32): ret $3"


class CheckTest(StepCase):

    def test_steps_has_each_word(self):
        self.assertEqual(sorted(STEPS), sorted(GOOD))
        for word, function in STEPS.items():
            self.assertEqual(function.__name__, word)
            self.assertEqual(function.__code__.co_varnames[:2], ("module", "step"))

    def test_empty_certificate(self):
        module = self.module(TEXT)
        self.assertEqual(check(module, ()), (module, -1))

    def test_steps_in_order(self):
        module = self.module(TEXT)
        steps = (("rule", "main", 0, 1, 1, ()), ("rule", "main", 0, 1, 11, ()), ("join", "main", 0))
        due = ("$2 = mul i32 $0, i32 8 br 1($2) 1($3 i32): ret $3", "$2 = shl i32 $0, i32 3 br 1($2) 1($3 i32): ret $3", "$2 = shl i32 $0, i32 3 ret $2")
        for k in range(3):
            self.assertEqual(check(module, steps[:k + 1]), (self.module("0(): $0 = call i32 get() !1 " + due[k]), -1))
        changed = module
        for step in steps:
            changed = apply_step(changed, step)
        self.assertEqual(changed, check(module, steps)[0])
        self.assertEqual(module, self.module(TEXT))

    def test_the_first_step_that_is_refused(self):
        module = self.module(TEXT)
        good, bad = ("rule", "main", 0, 1, 1, ()), ("join", "main", 7)
        self.assertEqual(check(module, (bad,)), (None, 0))
        self.assertEqual(check(module, (good, bad)), (None, 1))
        self.assertEqual(check(module, (good, bad, bad)), (None, 1))
        # Done once, the step cannot be done again.
        self.assertEqual(check(module, (good, good)), (None, 1))
        self.assertEqual(check(module, (("prune", "main"),) * 5 + (bad, good)), (None, 5))

    def test_certificates_that_are_no_tuples(self):
        module = self.module(TEXT)
        for value in (None, True, False, 0, 1, -1, "", "prune", [], [("prune", "main")]):
            self.assertEqual(check(module, value), (None, 0), value)

    def test_parts_that_are_no_steps(self):
        module = self.module(TEXT)
        for value in PLAIN:
            self.assertIsNone(apply_step(module, value), value)
            self.assertEqual(check(module, (value,)), (None, 0), value)
            self.assertEqual(check(module, (("prune", "main"), value)), (None, 1), value)
        self.assertEqual(check(module, ("prune", "main")), (None, 0))

    def test_steps_of_other_functions_are_refused(self):
        module = self.module(TEXT)
        for word, step in SHAPED.items():
            self.assertIs(has_shape(step), True)
            self.assertIsNone(apply_step(module, step), word)
            self.assertIsNone(STEPS[word](module, step), word)
        for word, step in SHAPED.items():
            if word in ("fix_global", "drop_global"):
                continue
            here = (word, "main") + step[2:]
            changed = apply_step(module, here)
            self.assertTrue(changed is None or faults(changed) == [], word)

    def test_plain_values_inside_of_steps(self):
        """Whatever stands in a step, the kernel answers, and what it accepts has no faults."""
        rnd = random.Random(11)
        accepted = 0

        def changed(value, depth):
            if isinstance(value, tuple) and value and rnd.random() < 0.8:
                k = rnd.randrange(len(value))
                if rnd.random() < 0.1:
                    return value[:k] + value[k + 1:]
                return value[:k] + (changed(value[k], depth + 1),) + value[k + 1:]
            return rnd.choice(PLAIN + ("main", "g0", 1, 2, 3, 8, 255, "i8", "ptr", ("name", 1), ("int", "i8", 3), ("null",), ((0, 0),)))

        for seed in range(40):
            module = Shaper(random.Random(seed)).module()
            proposer = Proposer(rnd, module, honest=0.7)
            runs = [run(module, data, fuel=500) for data in INPUTS[:3]]
            for _ in range(60):
                step = proposer.propose(rnd.choice(proposer.words()))
                if step is None:
                    continue
                if rnd.random() < 0.8:
                    k = rnd.randrange(1, len(step))
                    step = step[:k] + (changed(step[k], 0),) + step[k + 1:]
                result = apply_step(module, step)
                if not has_shape(step):
                    self.assertIsNone(result)
                if result is not None:
                    accepted += 1
                    self.assertEqual(faults(result), [])
                    for data, before in zip(INPUTS, runs):
                        self.assertTrue(same_run(before, run(result, data, fuel=900)))
        self.assertGreater(accepted, 100)

    def test_modules_that_would_have_faults(self):
        # The steps themselves are done; the kernel refuses what they make.
        self.faulty("0(): ret i32 0 1(): br 2($1) 2($1 i32): ret $1", ("join", "main", 1))
        self.faulty("0(): ret i32 0 1(): $0 = add i8 $0, i8 0 $1 = add i8 $0, $0 ret i32 0", ("rule", "main", 1, 0, 1, ()))
        module = self.module("0(): ret i32 0 1(): $0 = add i8 $0, i8 0 $1 = add i8 $0, $0 ret i32 0")
        self.assertEqual(check(module, (("prune", "main"), ("rule", "main", 1, 0, 1, ()))), (None, 1))

    def test_faults_of_other_functions(self):
        # Steps that change what functions know of each other.
        text = "global g 1 internal f i32 { 0($0 i32): ret i32 1 } export main i32 { 0(): $0 = call i32 f(i32 3) !1 ret i32 0 1(): $1 = call i32 f(i32 2) !2 ret i32 0 }"
        due = text.replace("$0 i32", "").replace("f(i32 3)", "f()").replace("f(i32 2)", "f()")
        self.done(text, ("drop_argument", "f", 0), due)
        self.done(due, ("drop_result", "f"), due.replace("f i32", "f void").replace("ret i32 1", "ret").replace("$0 = call i32", "call void").replace("$1 = call i32", "call void"))


class PromiseTest(unittest.TestCase):
    """Random steps: what is accepted keeps the run, ends in time, has no faults, and changes nothing that was passed in."""

    def test_random_steps(self):
        done = collections.Counter()
        for seed in range(260):
            rnd = random.Random(seed)
            module = Maker(rnd).module() if seed % 5 == 0 else Shaper(rnd).module()
            self.walk(rnd, module, done, 30)
        # Each word but the rarest ones was accepted now and then.
        rare = [word for word in STEPS if done[word] == 0]
        self.assertLessEqual(len(rare), 2, rare)

    def walk(self, rnd, module, done, count):
        first = module
        for _ in range(count):
            proposer = Proposer(rnd, module)
            word = rnd.choice(proposer.words())
            step = proposer.propose(word)
            if step is None:
                continue
            before = copy.deepcopy((module, step))
            self.assertIs(has_shape(step), True)
            made = STEPS[word](module, step)
            changed = apply_step(module, step)
            self.assertEqual((module, step), before)
            self.assertEqual(changed, None if made is None or faults(made) else made)
            if changed is not None:
                done[word] += 1
                self.look(module, changed, step)
                module = changed
            if size(module) > 250:
                break
        for data in INPUTS[:4]:
            self.assertTrue(same_run(run(first, data, fuel=800), run(module, data, fuel=8000)))

    def look(self, module, changed, step):
        for data in INPUTS[:4]:
            first = run(module, data, fuel=400)
            fuel = 500 if first[1] == ("none",) else (first[2] + 1) * 2 * (size(changed) + 1)
            second = run(changed, data, fuel=fuel)
            self.assertTrue(same_run(first, second), step)
            if first[1] != ("none",):
                self.assertEqual(first[:2], second[:2], step)


class BoundsTest(unittest.TestCase):

    def test_many_steps(self):
        module = parse_module("export main i32 { 0(): " + " ".join(f"${k} = add i32 i32 {k}, i32 0" for k in range(400)) + " ret $399 }")
        certificate = tuple(("rule", "main", 0, 399 - k, 1, ()) for k in range(400))
        changed, at = shallow(lambda: check(module, certificate))
        self.assertEqual(at, -1)
        self.assertEqual(changed, parse_module("export main i32 { 0(): ret i32 399 }"))

    def test_greatest_function(self):
        function = big_function()
        module = ((), (function,))
        certificate = (("prune", "main"), ("fold_end", "main", 7), ("cut", "main", 9, 4, 5000), ("join", "main", 9))
        self.assertEqual(shallow(lambda: check(module, certificate))[1], -1)


if __name__ == "__main__":
    unittest.main()
