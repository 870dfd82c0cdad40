"""Tidy: the normal form of the graph of a function."""

from burnish.drafting import Draft, cut_to
from burnish.edits import Scope, edge_at, open_labels
from burnish.graphsteps import taken_edge
from burnish.records import edges, end_operands, new_name
from burnish.scopes import reached


def _passable(function):
    """Return a dict from the label of each passable block to the label to which it leads."""
    opened = open_labels(function)
    found = {}
    for label, _, body, end in function[3][1:]:
        if not body and end[0] == "br" and label not in opened:
            found[label] = end[1][0]
    return found


def _followed(passable, label):
    """Return the passable labels from a label on, and whether they end at another one."""
    found = []
    seen = {}
    while label in passable and label not in seen:
        found.append(label)
        seen[label] = True
        label = passable[label]
    return found, label not in passable


def _ending(passable):
    """Return a dict with the passable labels whose chains end at a label that is not passable."""
    found = {}
    known = {}
    for first in passable:
        label = first
        row = []
        while label in passable and label not in known:
            known[label] = True
            row.append(label)
            label = passable[label]
        # A label that was met on the way itself has no end yet, nor will it have one.
        if label not in passable or label in found:
            for passed in row:
                found[passed] = True
    return found


def chain(function, label, slot):
    """Return the list of the labels of the chain of an edge, and whether it ends at a block that is not passable."""
    return _followed(_passable(function), edge_at(function, label, slot)[0])


class Tidier:
    """Looks for the steps that bring the graph of a function as it is into normal form."""

    def __init__(self, function):
        self.function = function
        self.name = function[0]
        self.rows = sorted(function[3])
        self.first = function[3][0][0]
        self.blocks = {block[0]: block for block in function[3]}
        # From each label to the args of the edges into it.
        self.led = {block[0]: [] for block in function[3]}
        for block in function[3]:
            for target, operands in edges(block[3]):
                self.led[target].append(operands)

    def prunes(self):
        """Return the step that removes the blocks that cannot be reached, if there are any."""
        return [("prune", self.name)] if len(reached(self.function)) < len(self.rows) else []

    def folds(self):
        """Return the steps for ends that take one edge only."""
        return [("fold_end", self.name, block[0]) for block in self.rows if taken_edge(block[3]) is not None]

    def case_drops(self):
        """Return the steps for cases that have the edge of the default."""
        found = []
        for label, _, _, end in self.rows:
            if end[0] == "switch":
                found.extend([("drop_case", self.name, label, i) for i, case in enumerate(end[2]) if case[1] == end[3]])
        return found

    def joins(self):
        """Return the steps for blocks behind which another one can be put."""
        found = []
        for label, _, _, end in self.rows:
            if end[0] == "br" and end[1][0] not in (label, self.first) and len(self.led[end[1][0]]) == 1:
                found.append(("join", self.name, label))
        return found

    def same_params(self):
        """Return the steps for params for which one operand is passed."""
        found = []
        for label, params, _, _ in self.rows:
            for i, (param, _) in enumerate(params):
                told = {operands[i]: True for operands in self.led[label] if operands[i] != ("name", param)}
                if len(told) == 1:
                    found.append(("same_param", self.name, label, i, list(told)[0]))
        # Dominators are looked at only where something is left to look at.
        if found:
            scope = Scope(self.function)
            found = [step for step in found if scope.outer(step[4], step[2])]
        return found

    def other_uses(self):
        """Return a dict with the names that are used otherwise than as args for themselves."""
        found = {}
        for _, _, body, end in self.rows:
            # A condition, value or result stands ahead of the args.
            operands = end_operands(end)
            del operands[len(operands) - sum([len(passed) for _, passed in edges(end)]):]
            for made in body:
                operands.extend(made[3])
            for target, passed in edges(end):
                params = self.blocks[target][1]
                operands.extend([operand for operand, param in zip(passed, params) if operand != ("name", param[0])])
            for operand in operands:
                found[operand] = True
        return found

    def name_drops(self):
        """Return the steps for params that are only passed for themselves."""
        found = []
        if not any([block[1] for block in self.rows if block[0] != self.first]):
            return found
        used = self.other_uses()
        for label, params, _, _ in self.rows:
            if label != self.first:
                names = [param for param, _ in params if ("name", param) not in used]
                found.extend([("drop_names", self.name, (param,)) for param in names])
        return found

    def branches(self):
        """Return the steps for switches with one case."""
        labels = [block[0] for block in self.rows if block[3][0] == "switch" and len(block[3][2]) == 1]
        # The names are counted only where one is needed.
        fresh = new_name(self.function) if labels else 0
        return [("as_condbr", self.name, label, fresh) for label in labels]

    def skips(self):
        """Return the steps for edges that can be cut short."""
        ending = _ending(_passable(self.function))
        found = []
        for label, _, _, end in self.rows:
            row = [slot for slot, (target, _) in enumerate(edges(end)) if target in ending]
            found.extend([("skip", self.name, label, slot) for slot in row])
        return found

    def first_part(self, part):
        """Return the steps of a part of the normal form, 1 to 8, in order."""
        if part == 1:
            return self.prunes()
        if part == 2:
            return self.folds()
        if part == 3:
            return self.case_drops()
        if part == 4:
            return self.joins()
        if part == 5:
            return self.same_params()
        if part == 6:
            return self.name_drops()
        return self.branches() if part == 7 else self.skips()


def _tidy_once(draft):
    """Emit the first step that applies; tell whether there is one."""
    tidier = Tidier(draft.subject())
    for part in range(1, 9):
        for step in tidier.first_part(part):
            if draft.emit(step):
                return True
    return False


def tidy(module, name, *, amount=0):
    """Return the certificate that brings the graph of a function into normal form."""
    draft = Draft(module, name)
    while _tidy_once(draft):
        if amount > 0 and len(draft.emitted) == amount:
            break
    return cut_to(draft.emitted, amount)
