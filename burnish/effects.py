"""Effects: what calls of a function may do besides returning."""

from burnish.graph import graph_of, reverse_postorder
from burnish.records import builtin, find_function, is_division
from burnish.tables import is_effect_table
from burnish.words import size

_BUILTIN_EFFECTS = {
    "get": ("io",), "put": ("io",), "exit": ("io",), "malloc": (), "free": ("frees", "traps"),
}


def constant_bytes(module, results, instruction):
    """Return the bytes that a load of an integer from a constant global gives, or None.

    `results` is a dict from each name to its instruction.
    """
    _, op, kind, operands, _, _ = instruction
    if op != "load" or kind == "ptr":
        return None
    pointer = operands[0]
    offset = 0
    if pointer[0] == "name" and pointer[1] in results:
        _, maker, _, bases, data, _ = results[pointer[1]]
        if maker == "gep" and len(bases) == 1:
            pointer = bases[0]
            offset = data[0]
    for name, constant, values in module[0]:
        if pointer == ("global", name):
            if not constant or offset < 0 or offset + size(kind) > len(values):
                return None
            return values[offset:offset + size(kind)]
    return None


def _instruction_effects(module, results, instruction):
    """Return the effects of an instruction that is no call of a function of the module."""
    op, operands, data = instruction[1], instruction[3], instruction[4]
    if op == "load":
        return ("reads",) if constant_bytes(module, results, instruction) is not None else ("reads", "traps")
    if op == "store":
        return ("traps", "writes")
    if op == "kill":
        return ("frees",)
    if op == "call":
        return _BUILTIN_EFFECTS.get(data[0], ())
    if is_division(op) and (operands[1][0] != "int" or operands[1][2] == 0):
        return ("traps",)
    return ()


def _has_cycle(graph, order):
    """Tell whether the reachable labels, in reverse postorder, form a cycle."""
    places = {label: place for place, label in enumerate(order)}
    for label, targets in graph:
        if label in places and any([places[target] <= places[label] for target in targets]):
            return True
    return False


def _own_effects(module, function):
    """Return a dict with the effects that a function has by itself, and one with its callees."""
    results = {}
    for block in function[3]:
        for instruction in block[2]:
            results[instruction[0]] = instruction
    graph = graph_of(function)
    order = reverse_postorder(graph)
    found = {}
    callees = {}
    if _has_cycle(graph, order):
        found["loops"] = True
    reached = {label: True for label in order}
    for label, _, body, end in function[3]:
        if label not in reached:
            continue
        for instruction in body:
            for word in _instruction_effects(module, results, instruction):
                found[word] = True
            if instruction[1] == "call" and builtin(instruction[4][0]) is None:
                callees[instruction[4][0]] = True
        if end[0] == "stop":
            found["traps"] = True
    return found, callees


def _calls_back(callees, name):
    """Tell whether a chain of calls leads from a function back to it."""
    seen = {}
    waiting = list(callees[name])
    while waiting:
        callee = waiting.pop()
        if callee not in seen:
            seen[callee] = True
            waiting.extend(callees[callee])
    return name in seen


def _needed(module):
    """Return two dicts from each name of a function: to its own effects, and to its callees."""
    own = {}
    callees = {}
    for function in module[1]:
        own[function[0]], callees[function[0]] = _own_effects(module, function)
    for name in callees:
        if _calls_back(callees, name):
            own[name]["loops"] = True
    return own, callees


def holds_effects(module, table):
    """Tell whether a plain value is an effect table of the module that holds."""
    if not is_effect_table(table) or [row[0] for row in table] != [function[0] for function in module[1]]:
        return False
    own, callees = _needed(module)
    told = {name: effects for name, effects in table}
    for name, effects in table:
        if not all([word in effects for word in own[name]]):
            return False
        for callee in callees[name]:
            if not all([word in effects for word in told[callee]]):
                return False
    return True


def solve_effects(module):
    """Return the least effect table of a module."""
    found, callees = _needed(module)
    waiting = list(found)
    while waiting:
        callee = waiting.pop()
        for name in found:
            if callee in callees[name] and not all([word in found[name] for word in found[callee]]):
                found[name].update(found[callee])
                waiting.append(name)
    return tuple([(function[0], tuple(sorted(found[function[0]]))) for function in module[1]])


def callee_effects(module, effects, instruction):
    """Return the effects, by a table, of the function of the module that is called, or None."""
    if instruction[1] != "call" or find_function(module, instruction[4][0]) is None:
        return None
    for name, row in effects:
        if name == instruction[4][0]:
            return row
    return None
