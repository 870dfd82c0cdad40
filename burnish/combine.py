"""Combine: instructions rewritten by rules until none matches."""

from burnish.edits import with_blocks
from burnish.records import find_function, map_end, map_instruction
from burnish.rules import first_ranged, first_rewrite, has_ranged_rule
from burnish.scopes import kinds_of, operand_kind, reached
from burnish.solve import solve_values
from burnish.values import Knowledge


class Rewriter:
    """A function that is rewritten in place; it is a book for the rules.

    What replaces a result is put into an instruction only when that is looked at.
    """

    def __init__(self, module, function, most):
        self.module = module
        self.function = function
        self.most = most
        self.certificate = []
        self.kinds = kinds_of(function)
        self.bodies = {block[0]: list(block[2]) for block in function[3]}
        self.makers = {}
        for body in self.bodies.values():
            for instruction in body:
                self.makers[instruction[0]] = instruction
        self.replaced = {}
        # What the value table of the function as it is says, None where that is not solved.
        self.solved = ()
        self.knowledge = None

    def replacement(self, operand):
        """Return what stands for an operand now."""
        passed = []
        while operand[0] == "name" and operand[1] in self.replaced:
            passed.append(operand[1])
            operand = self.replaced[operand[1]]
        for name in passed:
            self.replaced[name] = operand
        return operand

    def maker_of(self, operand):
        """Return the instruction that defines a name, None for what no instruction defines."""
        if operand[0] != "name" or operand[1] not in self.makers:
            return None
        return map_instruction(self.makers[operand[1]], self.replacement)

    def kind_of(self, operand):
        """Return the kind of an operand."""
        return operand_kind(self.kinds, operand)

    def as_it_is(self):
        """Return the function as it is."""
        changed = []
        for label, params, _, end in self.function[3]:
            body = tuple([map_instruction(instruction, self.replacement) for instruction in self.bodies[label]])
            changed.append((label, params, body, map_end(end, self.replacement)))
        return with_blocks(self.function, changed)

    def solve(self):
        """Solve the value table of the function as it is."""
        if self.knowledge is None:
            function = self.as_it_is()
            self.solved = solve_values(self.module, function)
            self.knowledge = Knowledge(function, self.solved)

    def step_for(self, label, k, instruction):
        """Return (step, result) of the rule for the instruction at a place, None if none matches."""
        name = self.function[0]
        told = first_rewrite(self, instruction, 0)
        if told is not None:
            return (("rule", name, label, k, told[0], ()), told[1])
        if not has_ranged_rule(instruction):
            return None
        self.solve()
        told = first_ranged(self.knowledge, instruction, 0)
        if told is None:
            return None
        return (("ranged_rule", name, self.solved, label, k, told[0], ()), told[1])

    def is_full(self):
        """Tell whether the certificate has as many steps as it may have."""
        return self.most > 0 and len(self.certificate) == self.most

    def look_at(self, label, k):
        """Rewrite the instruction at a place until no rule matches; tell whether it is left."""
        body = self.bodies[label]
        body[k] = map_instruction(body[k], self.replacement)
        while not self.is_full():
            told = self.step_for(label, k, body[k])
            if told is None:
                return True
            step, (word, result) = told
            self.certificate.append(step)
            self.knowledge = None
            name = body[k][0]
            if word == "operand":
                self.replaced[name] = result
                del self.makers[name]
                del body[k]
                return False
            body[k] = result[0]
            self.makers[name] = result[0]
        return True

    def sweep(self, labels):
        """Look at each instruction of these blocks once."""
        for label in labels:
            k = 0
            while k < len(self.bodies[label]) and not self.is_full():
                if self.look_at(label, k):
                    k += 1


def combine(module, name, *, amount=0):
    """Return the certificate that rewrites a function by the rules."""
    function = find_function(module, name)
    labels = reached(function)
    rewriter = Rewriter(module, function, amount)
    before = -1
    while before < len(rewriter.certificate) and not rewriter.is_full():
        before = len(rewriter.certificate)
        rewriter.sweep(labels)
    return tuple(rewriter.certificate)
