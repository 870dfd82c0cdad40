"""Invariants: what is the same each time in a loop, done ahead of it."""

from burnish.drafting import over_functions
from burnish.edits import block_names, is_pure, used_in
from burnish.graph import definition_places
from burnish.lattice import is_single
from burnish.plainloops import Nesting, gather_edges, give_params, labels_living, names_used_elsewhere
from burnish.records import find_block, new_label
from burnish.solve import solve_values
from burnish.values import Knowledge


class Hoister:
    """Moves instructions out of the loops of a function, without changing it."""

    def __init__(self, function, amount):
        self.nesting = Nesting(function)
        self.name = function[0]
        self.amount = amount
        self.bodies = {block[0]: list(block[2]) for block in function[3]}
        self.homes = {name: place[0] for name, place in definition_places(function).items()}
        self.emitted = []

    def is_free(self, made, inside):
        """Tell whether an instruction is pure and has no operand that a loop defines."""
        if not is_pure(made):
            return False
        return not any([operand[0] == "name" and self.homes[operand[1]] in inside for operand in made[3]])

    def hoist_from(self, loop):
        """Move what can be moved from a loop to its preheader."""
        ahead = self.nesting.ahead_of(loop)
        if ahead == -1:
            return
        inside = {label: True for label in loop[1]}
        for label in self.nesting.ordered(loop):
            body = self.bodies[label]
            k = 0
            while k < len(body) and len(self.emitted) < self.amount:
                if not self.is_free(body[k], inside):
                    k += 1
                    continue
                self.emitted.append(("move", self.name, label, k, ahead, len(self.bodies[ahead])))
                self.homes[body[k][0]] = ahead
                self.bodies[ahead].append(body[k])
                del body[k]

    def hoist_all(self):
        """Move what can be moved, from the innermost loops outwards."""
        for loop in sorted(self.nesting.found, key=lambda row: (-row[4], row[0])):
            self.hoist_from(loop)


def _hoist(draft, amount):
    """Move instructions of a function out of its loops."""
    draft.prune()
    hoister = Hoister(draft.subject(), amount)
    hoister.hoist_all()
    for step in hoister.emitted:
        draft.emit(step)


def hoist(module, name, *, amount=1000):
    """Return the certificate that moves instructions to the preheaders of their loops."""
    return over_functions(module, name, _hoist, amount)


def _condition(function):
    """Return (loop, name) of the first simple loop with a condbr on a name from outside, or None."""
    nesting = Nesting(function)
    homes = {name: place[0] for name, place in definition_places(function).items()}
    ends = {block[0]: block[3] for block in function[3]}
    for loop in nesting.found:
        inside = {label: True for label in loop[1]}
        for label in loop[1]:
            end = ends[label]
            if end[0] == "condbr" and end[1][0] == "name" and homes[end[1][1]] not in inside:
                if nesting.is_simple(loop):
                    return (loop, end[1][1])
                break
    return None


def _close_outside(draft, loop):
    """Let the blocks outside of a loop use params for its names; tell whether no step was refused."""
    used = names_used_elsewhere(draft.subject())
    inside = {label: True for label in loop[1]}
    names = {}
    for block in draft.subject()[3]:
        if block[0] not in inside:
            for name in used_in(block):
                names[name] = True
    for name in sorted([name for label in loop[1] for name in used[label] if name in names]):
        outside = [label for label in labels_living(draft.subject(), name) if label not in inside]
        if not give_params(draft, name, outside):
            return False
    return True


def _give_condition(draft, loop, name):
    """Let the blocks of a loop use params for a name from outside; return them, None if a step is refused."""
    labels = [label for label in labels_living(draft.subject(), name) if label in loop[1]]
    if not give_params(draft, name, labels):
        return None
    function = draft.subject()
    return [find_block(function, label)[1][-1][0] for label in labels]


def _copy_loop(draft, loop, ahead):
    """Let slot 1 of the end ahead of a loop lead to a copy of it; return a dict from its names to the copies."""
    function = draft.subject()
    labels = loop[1]
    first = new_label(function)
    fresh = tuple([first + k for k in range(len(labels))])
    own = [name for label in labels for name in block_names(find_block(function, label))]
    names = draft.new_names(len(own))
    step = ("copy_region", draft.name, loop[0], labels, fresh, names, ((ahead, 1),))
    return {old: new for old, new in zip(own, names)} if draft.emit(step) else None


def _fork_loop(draft, loop, ahead, name):
    """Take one of two copies of a loop, as a name tells; return (copied names, gathered params) or None."""
    if find_block(draft.subject(), ahead)[3][0] == "switch":
        draft.emit(("fold_end", draft.name, ahead))
    if not draft.emit(("fork", draft.name, ahead, ("name", name))):
        return None
    copied = _copy_loop(draft, loop, ahead)
    if copied is None:
        return None
    gathered = []
    for slot in (0, 1):
        if not gather_edges(draft, [(ahead, slot)]):
            return None
        gathered.extend(block_names(draft.subject()[3][-1]))
    for slot in (0, 1):
        if not draft.emit(("edge_value", draft.name, ahead, slot)):
            return None
    return (copied, gathered)


def _settle(draft, names):
    """Put values for those of the names that can have one only, and fold what they decide."""
    function = draft.subject()
    table = solve_values(draft.whole, function)
    knowledge = Knowledge(function, table)
    single = [name for name in sorted(names) if is_single(knowledge.range_of(("name", name)))]
    if single and not draft.emit(("ranges", draft.name, table, tuple(single))):
        return False
    for label in sorted([block[0] for block in draft.subject()[3]]):
        end = find_block(draft.subject(), label)[3]
        if end[0] == "condbr" and end[1][0] == "int" and not draft.emit(("fold_end", draft.name, label)):
            return False
    draft.prune()
    return True


def _unswitch_one(draft, loop, name):
    """Unswitch a loop by a condition; tell whether no step was refused."""
    ahead = Nesting(draft.subject()).ahead_of(loop)
    if not _close_outside(draft, loop):
        return False
    params = _give_condition(draft, loop, name)
    if params is None:
        return False
    told = _fork_loop(draft, loop, ahead, name)
    if told is None:
        return False
    copied, gathered = told
    return _settle(draft, params + [copied[param] for param in params] + gathered)


def _unswitch_all(draft, amount):
    """Unswitch the simple loops of a function, so often at most."""
    draft.prune()
    for _ in range(amount):
        found = _condition(draft.subject())
        if found is None:
            return
        mark = draft.mark()
        if not _unswitch_one(draft, found[0], found[1]):
            draft.back_to(mark)
            return


def unswitch(module, name, *, amount=4):
    """Return the certificate that decides on conditions ahead of loops instead of in them."""
    return over_functions(module, name, _unswitch_all, amount)
