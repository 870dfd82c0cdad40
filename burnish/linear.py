"""Linear forms: names as sums of multiples of other names.

A form is (d, ((n, c), ..)): the value is d and c times the value of each n.
A linear table is a tuple of (s, i, c, d): the param s is c * i + d.
"""

from burnish.lattice import top_of
from burnish.records import edges
from burnish.scopes import kinds_of, reached
from burnish.tables import is_linear_table
from burnish.values import live_labels
from burnish.words import width, wrap

_LINEAR_OPS = ("add", "sub", "mul", "shl")

# A form has at most so many names.
_MOST = 8


def constant_form(number):
    """Return the form of a number."""
    return (number, ())


def scaled(w, form, factor):
    """Return the form of a multiple."""
    d, parts = form
    found = [(name, wrap(w, c * factor)) for name, c in parts]
    return (wrap(w, d * factor), tuple([part for part in found if part[1] != 0]))


def summed(w, first, second):
    """Return the form of a sum."""
    factors = {name: c for name, c in first[1]}
    for name, c in second[1]:
        factors[name] = wrap(w, factors.get(name, 0) + c)
    parts = [(name, factors[name]) for name in sorted(factors) if factors[name] != 0]
    return (wrap(w, first[0] + second[0]), tuple(parts))


def less(w, first, second):
    """Return the form of a difference."""
    return summed(w, first, scaled(w, second, -1))


class Makers:
    """What makes the names of a function: the instructions whose forms come from their operands."""

    def __init__(self, function):
        self.kinds = kinds_of(function)
        self.results = {}
        self.params = {}
        alive = {label: True for label in reached(function)}
        for label, params, body, _ in function[3]:
            if label not in alive:
                continue
            for name, _ in params:
                self.params[name] = True
            for instruction in body:
                if instruction[1] in _LINEAR_OPS:
                    self.results[instruction[0]] = instruction


class Forms:
    """The linear forms of names, found when they are asked for."""

    def __init__(self, makers, table):
        self.makers = makers.results
        self.found = {}
        for s, i, c, d in table:
            if s in makers.params:
                self.found[s] = scaled(width(makers.kinds[s]), (d, ((i, c),)), 1)

    def so_far(self, operand):
        """Return the form of an operand, None if it is not found so far."""
        if operand[0] == "int":
            return constant_form(operand[2])
        if operand[1] not in self.found and operand[1] not in self.makers:
            self.found[operand[1]] = (0, ((operand[1], 1),))
        return self.found.get(operand[1])

    def form_of(self, operand):
        """Return the form of an integer operand."""
        waiting = [operand]
        while waiting:
            asked = waiting[-1]
            if self.so_far(asked) is None:
                lacking = [other for other in self.makers[asked[1]][3] if self.so_far(other) is None]
                if lacking:
                    waiting.extend(lacking)
                    continue
                self.found[asked[1]] = self.made(self.makers[asked[1]])
            waiting.pop()
        return self.so_far(operand)

    def made(self, instruction):
        """Return the form of a result, from those of the operands."""
        name, op, kind, operands, _, _ = instruction
        w = width(kind)
        first, second = [self.so_far(operand) for operand in operands]
        form = None
        if op == "add":
            form = summed(w, first, second)
        elif op == "sub":
            form = less(w, first, second)
        elif op == "shl" and second[1] == () and second[0] < w:
            form = scaled(w, first, 1 << second[0])
        elif op == "mul" and second[1] == ():
            form = scaled(w, first, second[0])
        elif op == "mul" and first[1] == ():
            form = scaled(w, second, first[0])
        if form is None or len(form[1]) > _MOST:
            return (0, ((name, 1),))
        return form


def linear_form(function, table, operand):
    """Return the linear form of an integer operand."""
    return Forms(Makers(function), table).form_of(operand)


def has_linear_form(function, table):
    """Tell whether a plain value has the form of a linear table of the function."""
    if not is_linear_table(table):
        return False
    owners = {}
    for label, params, _, _ in function[3][1:]:
        for name, kind in params:
            if kind != "ptr":
                owners[name] = (label, kind)
    for s, i, c, d in table:
        if s not in owners or owners.get(i) != owners[s]:
            return False
        if max(c, d) > top_of(owners[s][1]):
            return False
    return True


def live_arguments(function, dead):
    """Return a dict from each label to the list of the args of the edges into it that a run may take.

    They stand in ascending order of the edges.
    """
    live = {label: True for label in live_labels(function, dead)}
    never = {edge: True for edge in dead}
    found = {block[0]: [] for block in function[3]}
    for label, _, _, end in sorted([block for block in function[3] if block[0] in live]):
        for slot, (target, operands) in enumerate(edges(end)):
            if (label, slot) not in never:
                found[target].append(operands)
    return found


def _holds_equation(forms, kind, params, brought, row):
    """Tell whether an equation of params holds along all edges."""
    s, i, c, d = row
    names = [name for name, _ in params]
    at, other = names.index(s), names.index(i)
    w = width(kind)
    for operands in brought:
        wanted = summed(w, scaled(w, forms.form_of(operands[other]), c), constant_form(d))
        if forms.form_of(operands[at]) != wanted:
            return False
    return True


def holds_linear(function, values, table):
    """Tell whether a plain value is a linear table of the function that holds."""
    if not has_linear_form(function, table):
        return False
    makers = Makers(function)
    forms = Forms(makers, table)
    brought = live_arguments(function, values[0])
    owners = {name: block for block in function[3] for name, _ in block[1]}
    for row in table:
        label, params, _, _ = owners[row[0]]
        if not _holds_equation(forms, makers.kinds[row[0]], params, brought[label], row):
            return False
    return True


def _inverse(w, number):
    """Return the inverse of an odd number modulo 2 ** w."""
    # Each turn doubles the number of bits that are right; at first these are 3.
    found = number
    for _ in range(5):
        found = wrap(w, found * (2 - number * found))
    return found


def _step(form, name):
    """Return k if a form is that of the name plus k, else None."""
    return form[0] if form[1] == ((name, 1),) else None


class Search:
    """The search for equations between the params of a block."""

    def __init__(self, makers, forms, params, brought):
        self.makers = makers
        self.params = params
        self.arguments = brought
        # The forms of the arguments under the empty table, by params and then by edges.
        self.told = []
        for k, (_, kind) in enumerate(params):
            if kind == "ptr":
                self.told.append([])
            else:
                self.told.append([forms.form_of(operands[k]) for operands in brought])

    def equation(self, at, other):
        """Return the equation (s, i, c, d) that the edges suggest for two params, or None."""
        s, kind = self.params[at]
        i = self.params[other][0]
        w = width(kind)
        step_pair = None
        first = None
        for mine, its in zip(self.told[at], self.told[other]):
            steps = (_step(mine, s), _step(its, i))
            if None in steps:
                first = first or (mine, its)
            else:
                step_pair = step_pair or steps
        if step_pair is None or first is None or step_pair[1] & 1 == 0:
            return None
        c = wrap(w, step_pair[0] * _inverse(w, step_pair[1]))
        d, parts = less(w, first[0], scaled(w, first[1], c))
        return None if c == 0 or parts else (s, i, c, d)

    def holding(self, at, other):
        """Return the equation of two params if it holds, else None."""
        row = self.equation(at, other)
        if row is None:
            return None
        forms = Forms(self.makers, (row,))
        return row if _holds_equation(forms, self.params[at][1], self.params, self.arguments, row) else None

    def find(self):
        """Return the list of the equations of the block."""
        found = []
        told = {}
        for at, (_, kind) in enumerate(self.params):
            for other in range(at):
                if kind == "ptr" or self.params[other][1] != kind or other in told:
                    continue
                row = self.holding(at, other)
                if row is not None:
                    found.append(row)
                    told[at] = True
                    break
        return found


def solve_linear(function, values):
    """Return a linear table of the function that holds."""
    makers = Makers(function)
    forms = Forms(makers, ())
    brought = live_arguments(function, values[0])
    found = []
    for label, params, _, _ in function[3][1:]:
        if len(params) > 1:
            found.extend(Search(makers, forms, params, brought[label]).find())
    return tuple(sorted(found))
