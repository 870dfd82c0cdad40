"""Scopes: which blocks are reached, what dominates them, and the kinds of names."""

from burnish.flow import immediate, reached_nodes
from burnish.records import builtin, edges, find_function, result_kind


def block_numbers(function):
    """Return a dict from each label to the number of the first block that has it."""
    numbers = {}
    for number, block in enumerate(function[3]):
        if block[0] not in numbers:
            numbers[block[0]] = number
    return numbers


def block_targets(function):
    """Return for each block, by number, the list of the numbers that its edges lead to."""
    numbers = block_numbers(function)
    rows = []
    for block in function[3]:
        rows.append([numbers[label] for label, _ in edges(block[3]) if label in numbers])
    return rows


def reached(function):
    """Return the list of the labels of the reachable blocks, in the order of the blocks."""
    found = reached_nodes(block_targets(function))
    return [block[0] for block, is_reached in zip(function[3], found) if is_reached]


def dominating(function):
    """Return a dict from each reachable label to the list of the labels that dominate it."""
    targets = block_targets(function)
    uppers = immediate(targets)
    rows = {0: [0]}
    for node in _downwards(uppers):
        rows[node] = sorted(rows[uppers[node]] + [node])
    labels = [block[0] for block in function[3]]
    return {labels[node]: [labels[k] for k in rows[node]] for node in sorted(rows)}


def _downwards(uppers):
    """Return the nodes of a tree other than its root, each behind the one above it."""
    lowers = [[] for _ in uppers]
    for node, upper in enumerate(uppers):
        if upper >= 0:
            lowers[upper].append(node)
    found = []
    waiting = list(lowers[0])
    while waiting:
        node = waiting.pop()
        found.append(node)
        waiting.extend(lowers[node])
    return found


def kinds_of(function):
    """Return a dict from each defined name to the kind of its first definition."""
    kinds = {}
    for _, params, body, _ in function[3]:
        for name, kind in params:
            if name not in kinds:
                kinds[name] = kind
        for made in body:
            if made[0] != -1 and made[0] not in kinds:
                kinds[made[0]] = result_kind(made)
    return kinds


def operand_kind(kinds, operand):
    """Return the kind of an operand, None for a name that is not among the kinds."""
    if operand[0] == "int":
        return operand[1]
    if operand[0] == "name":
        return kinds.get(operand[1])
    return "ptr"


def signature(module, callee):
    """Return (kinds of the parameters, kind) of what is called, None if there is no such."""
    told = builtin(callee)
    if told is not None:
        return told
    function = find_function(module, callee)
    if function is None:
        return None
    params = function[3][0][1]
    return (tuple([kind for _, kind in params]), function[1])
