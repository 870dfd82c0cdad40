"""Combine: instructions rewritten by rules until none matches."""

from burnish.edits import with_blocks
from burnish.foresight import Foresight
from burnish.records import find_function, map_end, map_instruction
from burnish.rules import first_ranged, first_rewrite, has_ranged_rule
from burnish.scopes import kinds_of, operand_kind, reached
from burnish.solve import solve_values
from burnish.values import Knowledge


class Rewriter:
    """A function that is rewritten in place; it is a book for the rules.

    What replaces a result is put into an instruction only when that is looked at.
    """

    def __init__(self, module, function, most):
        self.whole = module
        self.function = function
        self.most = most
        self.emitted = []
        self.kinds = kinds_of(function)
        self.bodies = {block[0]: list(block[2]) for block in function[3]}
        self.makers = {}
        for body in self.bodies.values():
            for instruction in body:
                self.makers[instruction[0]] = instruction
        self.replaced = {}
        # The names that are found to have the full range in every table.
        self.full = {param: True for param, _ in function[3][0][1]}
        # What the value table of the function as it is says, None where that is not solved.
        self.solved = ()
        self.knowledge = None
        self.foresight = Foresight(self)

    def replacement(self, operand):
        """Return what stands for an operand now."""
        passed = []
        while operand[0] == "name" and operand[1] in self.replaced:
            passed.append(operand[1])
            operand = self.replaced[operand[1]]
        for name in passed:
            self.replaced[name] = operand
        return operand

    def current(self, instruction):
        """Return an instruction with what stands for its operands now."""
        return map_instruction(instruction, lambda operand: self.replacement(operand))

    def maker_of(self, operand):
        """Return the instruction that defines a name, None for what no instruction defines."""
        if operand[0] != "name" or operand[1] not in self.makers:
            return None
        return self.current(self.makers[operand[1]])

    def kind_of(self, operand):
        """Return the kind of an operand."""
        return operand_kind(self.kinds, operand)

    def as_it_is(self):
        """Return the function as it is."""
        changed = []
        for label, params, _, end in self.function[3]:
            body = tuple([self.current(instruction) for instruction in self.bodies[label]])
            changed.append((label, params, body, map_end(end, lambda operand: self.replacement(operand))))
        return with_blocks(self.function, changed)

    def solve(self):
        """Solve the value table of the function as it is."""
        if self.knowledge is None:
            function = self.as_it_is()
            self.solved = solve_values(self.whole, function)
            self.knowledge = Knowledge(function, self.solved)

    def is_full(self, operand):
        """Tell whether an operand is found to have the full range in every table."""
        return operand[0] == "name" and operand[1] in self.full

    def gives_full(self, instruction):
        """Tell whether a result has the full range by what makes it."""
        _, op, _, operands, _, _ = instruction
        if op in ("load", "call"):
            return True
        return op in ("add", "sub", "xor") and any([self.is_full(operand) for operand in operands])

    def note_change(self, name, remains):
        """Note that a name is made anew; tell whether it still has the full range, or what stands for it."""
        self.knowledge = None
        lost = name in self.full and not remains
        if lost:
            # Other names were found to be full because this one was.
            self.full = {param: True for param, _ in self.function[3][0][1]}
        if lost or name in self.foresight.found:
            self.foresight.found = {}

    def step_for(self, label, k, instruction):
        """Return (step, result) of the rule for the instruction at a place, None if none matches."""
        name = self.function[0]
        told = first_rewrite(self, instruction, 0)
        if told is not None:
            return (("rule", name, label, k, told[0], ()), told[1])
        if not has_ranged_rule(instruction) or not self.foresight.may_match(instruction):
            return None
        self.solve()
        told = first_ranged(self.knowledge, instruction, 0)
        if told is None:
            return None
        return (("ranged_rule", name, self.solved, label, k, told[0], ()), told[1])

    def is_over(self):
        """Tell whether the certificate has as many steps as it may have."""
        return self.most > 0 and len(self.emitted) == self.most

    def look_at(self, label, k):
        """Rewrite the instruction at a place until no rule matches; tell whether it is left."""
        body = self.bodies[label]
        body[k] = self.current(body[k])
        while not self.is_over():
            told = self.step_for(label, k, body[k])
            if told is None:
                break
            step, (word, result) = told
            self.emitted.append(step)
            name = body[k][0]
            if word == "operand":
                self.note_change(name, self.is_full(result))
                self.replaced[name] = result
                del self.makers[name]
                del body[k]
                return False
            self.note_change(name, self.gives_full(result[0]))
            body[k] = result[0]
            self.makers[name] = result[0]
        if self.gives_full(body[k]):
            self.full[body[k][0]] = True
        return True

    def sweep(self, labels):
        """Look at each instruction of these blocks once."""
        for label in labels:
            k = 0
            while k < len(self.bodies[label]) and not self.is_over():
                if self.look_at(label, k):
                    k += 1


def combine(module, name, *, amount=0):
    """Return the certificate that rewrites a function by the rules."""
    function = find_function(module, name)
    labels = reached(function)
    rewriter = Rewriter(module, function, amount)
    before = -1
    while before < len(rewriter.emitted) and not rewriter.is_over():
        before = len(rewriter.emitted)
        rewriter.sweep(labels)
    return tuple(rewriter.emitted)
