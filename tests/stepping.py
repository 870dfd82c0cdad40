"""What the tests of steps have in common."""

import copy
import unittest

from burnish.check import STEPS, apply_step, check
from burnish.faults import faults
from burnish.forms import has_shape
from burnish.parse import parse_module
from burnish.run import run, same_run
from burnish.show import show_module

INPUTS = ([], [0], [1], [2, 7], [7, 1, 0, 3], [255, 128, 1, 0, 9, 65, 3], [5] * 12)


def size(module):
    """Return the number of the blocks and instructions of a module."""
    return sum(len(function[3]) + sum(len(block[2]) for block in function[3]) for function in module[1])


class StepCase(unittest.TestCase):

    head = ""

    def module(self, text):
        """Return the module of a text: of all of it, or of the blocks of main."""
        if "{" not in text:
            text = self.head + " export main i32 { " + text + " }"
        elif "export main" not in text:
            text = self.head + " " + text + " export main i32 { 0(): ret i32 0 }"
        module = parse_module(text)
        self.assertEqual(faults(module), [])
        return module

    def same_runs(self, module, changed, fuel=400):
        """Look that both modules do the same, and that the changed one does not go on for much longer."""
        for data in INPUTS:
            first = run(module, data, fuel=fuel)
            most = fuel
            if first[1] != ("none",):
                most = (first[2] + 1) * 2 * (size(changed) + 1)
            second = run(changed, data, fuel=most)
            self.assertTrue(same_run(first, second), (data, first, second))
            if first[1] != ("none",):
                self.assertEqual(first[:2], second[:2])

    def done(self, text, step, due):
        """Look that a step is done, with the module of a text; return this module."""
        module, due = self.module(text), self.module(due)
        before = copy.deepcopy((module, step))
        self.assertIs(has_shape(step), True)
        changed = STEPS[step[0]](module, step)
        if changed is not None and changed != due:
            self.assertEqual(show_module(changed), show_module(due))
        self.assertEqual(changed, due)
        self.assertEqual(apply_step(module, step), due)
        self.assertEqual(check(module, (step,)), (due, -1))
        self.assertEqual((module, step), before)
        self.assertEqual(faults(changed), [])
        self.same_runs(module, changed)
        return changed

    def refused(self, text, *steps):
        """Look that steps are refused, by their conditions alone."""
        module = self.module(text)
        for step in steps:
            before = copy.deepcopy((module, step))
            self.assertIs(has_shape(step), True, step)
            self.assertIsNone(STEPS[step[0]](module, step), step)
            self.assertIsNone(apply_step(module, step))
            self.assertEqual(check(module, (step,)), (None, 0))
            self.assertEqual((module, step), before)

    def faulty(self, text, *steps):
        """Look that steps are refused because the modules that they would make have faults."""
        module = self.module(text)
        for step in steps:
            self.assertIs(has_shape(step), True, step)
            changed = STEPS[step[0]](module, step)
            self.assertNotEqual(faults(changed), [], step)
            self.assertIsNone(apply_step(module, step))
