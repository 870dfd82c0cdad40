"""What the tests of passes have in common."""

import copy
import random

from burnish.check import check
from burnish.edits import defined_names
from burnish.faults import faults
from burnish.graphsteps import renamed
from burnish.records import find_function
from burnish.show import show_module
from samples import Maker
from shaped import Shaper
from stepping import StepCase


def random_module(seed, **wanted):
    """Return a random module; every third one has blocks in any order, the others come from branches and loops."""
    rnd = random.Random(seed)
    if seed % 3 == 0:
        module = Maker(rnd, blocks=rnd.randrange(3, 11), rows=rnd.randrange(1, 8)).module()
    else:
        module = Shaper(rnd, statements=wanted.get("statements", rnd.randrange(3, 8)), depth=wanted.get("depth", rnd.randrange(1, 4))).module()
    return mixed(rnd, module) if seed % 4 == 1 else module


def mixed(rnd, module):
    """Return the module with names and labels that stand in no order."""
    functions = []
    for function in module[1]:
        labels, names = [block[0] for block in function[3]], defined_names(function)
        news = [rnd.sample(range(2 * len(row) + 5), len(row)) for row in (labels, names)]
        functions.append(renamed(function, dict(zip(labels, news[0])), dict(zip(names, news[1]))))
    return (module[0], tuple(functions))


class PassCase(StepCase):

    def passed(self, action, module, name="main", **told):
        """Look at the certificate of a pass and return it with the changed module."""
        before = copy.deepcopy(module)
        certificate = action(module, name, **told)
        self.assertEqual(module, before)
        self.assertIsInstance(certificate, tuple)
        changed, at = check(module, certificate)
        self.assertEqual(at, -1)
        self.assertEqual(faults(changed), [])
        self.same_runs(module, changed)
        return certificate, changed

    def leads(self, action, text, due, name="main", **told):
        """Look that a pass leads from the module of a text to that of another one; return the certificate."""
        certificate, changed = self.passed(action, self.module(text), name, **told)
        self.assertEqual(show_module(changed), show_module(self.module(due)))
        return certificate

    def leaves(self, action, text, name="main", **told):
        """Look that a pass has nothing to do."""
        self.assertEqual(action(self.module(text), name, **told), ())

    def cut(self, action, text, name="main"):
        """Look that an amount above 0 means so many first steps."""
        module = self.module(text)
        whole = action(module, name)
        self.assertEqual(action(module, name, amount=0), whole)
        for amount in range(1, len(whole) + 2):
            self.assertEqual(self.passed(action, module, name, amount=amount)[0], whole[:amount])
        return whole

    def words(self, certificate):
        return [step[0] for step in certificate]

    def over_random(self, action, seeds, look, **told):
        """Look at a pass over the functions of random modules; return how many certificates had steps."""
        found = 0
        for seed in seeds:
            module = random_module(seed)
            for function in module[1]:
                certificate, changed = self.passed(action, module, function[0], **told)
                found += certificate != ()
                look(module, function[0], certificate, changed)
        return found

    def joined(self, action, seeds, **told):
        """Look that "" stands for all functions in order, each as the ones before it leave the module."""
        for seed in seeds:
            module = random_module(seed)
            certificate = self.passed(action, module, "", **told)[0]
            due = ()
            for name in [function[0] for function in module[1]]:
                steps = action(module, name, **told)
                due += steps
                module = check(module, steps)[0]
            self.assertEqual(certificate, due)


def function_of(module, name="main"):
    return find_function(module, name)
