"""Deadcode: names that nothing needs, and calls that do nothing."""

from burnish.drafting import Draft, cut_to
from burnish.edits import used_names
from burnish.effects import callee_effects, solve_effects
from burnish.records import edges, end_operands, find_function
from burnish.valuesteps import is_needless


def _sources(function):
    """Return the list of the operands that are needed at once, and a dict from names to those they need.

    The dict has the droppable results and the params; the params of the entry need nothing.
    """
    params = {block[0]: block[1] for block in function[3]}
    first = []
    needs = {}
    for _, own, body, end in function[3]:
        for made in body:
            if is_needless(made):
                needs[made[0]] = list(made[3])
            else:
                first.extend(made[3])
        if end[0] in ("condbr", "switch", "ret"):
            # The condition, value or result stands first; a br has none.
            first.extend(end_operands(end)[:1] if end[1] is not None else [])
        for target, operands in edges(end):
            for (param, _), operand in zip(params[target], operands):
                needs.setdefault(param, []).append(operand)
        for param, _ in own:
            needs.setdefault(param, [])
    return first, needs


def _needed(function):
    """Return a dict with the needed names, and one with all names that may be dropped if not needed."""
    waiting, needs = _sources(function)
    found = {}
    while waiting:
        operand = waiting.pop()
        if operand[0] == "name" and operand[1] not in found:
            found[operand[1]] = True
            waiting.extend(needs.get(operand[1], ()))
    return found, needs


def needed_names(module, name):
    """Return the ascending list of the needed names of a function."""
    return sorted(_needed(find_function(module, name))[0])


def _drop_names(draft):
    """Drop all names that are not needed; tell whether there are any."""
    function = draft.subject()
    found, droppable = _needed(function)
    parameters = {param: True for param, _ in function[3][0][1]}
    names = sorted([name for name in droppable if name not in found and name not in parameters])
    return names != [] and draft.emit(("drop_names", draft.name, tuple(names)))


def _delete_calls(draft):
    """Delete the calls that do nothing, from the last to the first; tell whether there are any."""
    effects = solve_effects(draft.whole)
    function = draft.subject()
    used = used_names(function)
    done = False
    for label, _, body, _ in reversed(function[3]):
        for k in range(len(body) - 1, -1, -1):
            if callee_effects(draft.whole, effects, body[k]) not in ((), ("reads",)) or body[k][0] in used:
                continue
            if draft.emit(("delete_call", draft.name, effects, label, k)):
                done = True
                used = used_names(draft.subject())
    return done


def deadcode(module, name, *, amount=0):
    """Return the certificate that removes what nothing needs."""
    draft = Draft(module, name)
    dropped = deleted = True
    while dropped or deleted:
        dropped = _drop_names(draft)
        deleted = _delete_calls(draft)
    return cut_to(draft.emitted, amount)
