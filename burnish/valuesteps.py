"""Steps that change pure instructions and the values that are used."""

from burnish.demand import holds_demand
from burnish.edits import (
    Scope, are_new_names, block_in, change_names, instruction_at, is_pure, is_used, put_instructions, replace_result,
    uses, with_blocks, with_body,
)
from burnish.effects import callee_effects, holds_effects
from burnish.equations import holds_equations
from burnish.faults import Checker
from burnish.holding import holds_values
from burnish.lattice import is_single, top_of
from burnish.linear import holds_linear, linear_form
from burnish.records import (
    edges, find_block, find_function, is_division, map_end, map_instruction, put_block, put_function, result_kind,
    with_edges,
)
from burnish.rules import ranged, rewrite
from burnish.scopes import kinds_of, operand_kind
from burnish.tables import rises
from burnish.values import Knowledge, is_maker


def fits_at(module, function, block, k, instruction):
    """Tell whether an instruction can be added at a place: its name, and its operands there."""
    if block is None or not 0 <= k <= len(block[2]) or not are_new_names(function, [instruction[0]]):
        return False
    scope = Scope(function)
    if not all([scope.available(operand, block[0], k) for operand in instruction[3]]):
        return False
    # Where the operands are defined was looked at; what is left is that they exist, and their kinds.
    codes = Checker(module, function).instruction_codes((0, 0), instruction)
    return all([code == "order" for code in codes])


def insert(module, step):
    """Add a pure instruction."""
    _, name, label, k, instruction = step
    function, block = block_in(module, name, label)
    if not is_pure(instruction) or not fits_at(module, function, block, k, instruction):
        return None
    body = block[2][:k] + (instruction,) + block[2][k:]
    return put_function(module, put_block(function, with_body(block, body)))


def is_needless(instruction):
    """Tell whether an instruction does nothing but give its result."""
    if is_division(instruction[1]):
        return instruction[3][1][0] == "int" and instruction[3][1][2] != 0
    return is_pure(instruction) or is_maker(instruction)


def _droppable(function):
    """Return a dict of the names that may be dropped if nothing that stays uses them."""
    found = {}
    for block in function[3]:
        if block[0] != function[3][0][0]:
            for param, _ in block[1]:
                found[param] = True
        for instruction in block[2]:
            if is_needless(instruction):
                found[instruction[0]] = True
    return found


def _is_in(operand, names):
    """Tell whether an operand, or None, is one of the names of a dict."""
    return operand is not None and operand[0] == "name" and operand[1] in names


def _end_keeps(params, end, names):
    """Tell whether an end uses the names of a dict only as arguments for params among them."""
    if end[0] in ("condbr", "switch", "ret") and _is_in(end[1], names):
        return False
    for target, operands in edges(end):
        for (param, _), operand in zip(params[target], operands):
            if _is_in(operand, names) and param not in names:
                return False
    return True


def _used_among(function, names):
    """Tell whether the names of a dict are used only to make one another."""
    params = {block[0]: block[1] for block in function[3]}
    for _, _, body, end in function[3]:
        for instruction in body:
            if instruction[0] not in names and any([_is_in(operand, names) for operand in instruction[3]]):
                return False
        if not _end_keeps(params, end, names):
            return False
    return True


def without_names(function, names):
    """Return the function without the instructions and params of the names of a dict."""
    kept = {}
    for label, params, _, _ in function[3]:
        kept[label] = [k for k, (param, _) in enumerate(params) if param not in names]
    changed = []
    for label, params, body, end in function[3]:
        row = []
        for target, operands in edges(end):
            row.append((target, tuple([operands[k] for k in kept[target]])))
        left = tuple([instruction for instruction in body if instruction[0] not in names])
        changed.append((label, tuple([params[k] for k in kept[label]]), left, with_edges(end, row)))
    return with_blocks(function, changed)


def drop_names(module, step):
    """Remove names that only make one another."""
    _, name, names = step
    function = find_function(module, name)
    if function is None or not names or not rises(names):
        return None
    droppable = _droppable(function)
    gone = {dropped: True for dropped in names}
    if not all([dropped in droppable for dropped in names]) or not _used_among(function, gone):
        return None
    return put_function(module, without_names(function, gone))


def delete_call(module, step):
    """Remove a call that does nothing but give a result that nothing uses."""
    _, name, effects, label, k = step
    function, block = block_in(module, name, label)
    instruction = instruction_at(block, k)
    if instruction is None or not holds_effects(module, effects):
        return None
    if callee_effects(module, effects, instruction) not in ((), ("reads",)) or is_used(function, instruction[0]):
        return None
    return put_instructions(module, function, block, k, ())


def _agree(first, second):
    """Tell whether two instructions agree in op, kind, operands and data."""
    return first[1:5] == second[1:5]


def same(module, step):
    """Take the result of an instruction for that of another one that does the same."""
    _, name, label, k, other, j = step
    function, block = block_in(module, name, label)
    first = instruction_at(block, k)
    second = instruction_at(block_in(module, name, other)[1], j)
    if first is None or second is None or not _agree(first, second):
        return None
    result = ("name", second[0])
    if not is_pure(first) and not is_division(first[1]) or not Scope(function).available(result, label, k):
        return None
    return replace_result(module, function, block, k, result)


def _with_preferred(scope, block, x, y):
    """Return the block that uses y for x wherever y is available."""
    label, params, body, end = block

    def change_at(position):
        preferred = scope.available(y, label, position)
        return lambda operand: y if preferred and operand == x else operand

    rows = tuple([map_instruction(instruction, change_at(k)) for k, instruction in enumerate(body)])
    return (label, params, rows, map_end(end, change_at(len(body))))


def prefer(module, step):
    """Let uses of a name become those of another one that is made in the same way."""
    _, name, x, y = step
    function = find_function(module, name)
    if function is None:
        return None
    makers = {made[0]: made for block in function[3] for made in block[2] if is_pure(made)}
    if x not in makers or y not in makers or not _agree(makers[x], makers[y]):
        return None
    scope = Scope(function)
    changed = [_with_preferred(scope, block, ("name", x), ("name", y)) for block in function[3]]
    return put_function(module, with_blocks(function, changed))


def move(module, step):
    """Put a pure instruction to another place."""
    _, name, label, k, target, j = step
    function, block = block_in(module, name, label)
    instruction = instruction_at(block, k)
    if instruction is None or not is_pure(instruction):
        return None
    left = put_block(function, with_body(block, block[2][:k] + block[2][k + 1:]))
    into = find_block(left, target)
    if into is None or not 0 <= j <= len(into[2]):
        return None
    moved = put_block(left, with_body(into, into[2][:j] + (instruction,) + into[2][j:]))
    scope = Scope(moved)
    if not all([scope.available(operand, target, j) for operand in instruction[3]]):
        return None
    result = ("name", instruction[0])
    if not all([scope.available(result, at, position) for at, position, _ in uses(moved, instruction[0])]):
        return None
    return put_function(module, moved)


def _rewritten(module, function, block, k, told):
    """Return the module with what a rule makes of an instruction, None if the rule does not match."""
    if told is None:
        return None
    if told[0] == "operand":
        return replace_result(module, function, block, k, told[1])
    return put_instructions(module, function, block, k, told[1])


def rule(module, step):
    """Rewrite an instruction by a rule."""
    _, name, label, k, number, names = step
    function, block = block_in(module, name, label)
    instruction = instruction_at(block, k)
    if instruction is None:
        return None
    return _rewritten(module, function, block, k, rewrite(function, instruction, number, names))


def ranged_rule(module, step):
    """Rewrite an instruction by a rule that asks for ranges."""
    _, name, table, label, k, number, names = step
    function, block = block_in(module, name, label)
    instruction = instruction_at(block, k)
    if instruction is None or not holds_values(module, function, table):
        return None
    return _rewritten(module, function, block, k, ranged(function, table, instruction, number, names))


def _are_integers(function, names):
    """Tell whether names are ascending, at least one, and of integer kinds."""
    kinds = kinds_of(function)
    return names != () and rises(names) and all([kinds.get(name, "ptr") != "ptr" for name in names])


def ranges(module, step):
    """Replace names by the only values that they can have."""
    _, name, table, names = step
    function = find_function(module, name)
    if function is None or not _are_integers(function, names) or not holds_values(module, function, table):
        return None
    knowledge = Knowledge(function, table)
    changes = {}
    for known in names:
        bounds = knowledge.range_of(("name", known))
        if not is_single(bounds):
            return None
        changes[known] = ("int", knowledge.kinds[known], bounds[0])
    return put_function(module, change_names(function, changes))


def _keeps_bits(instruction, masks):
    """Tell whether an instruction keeps those bits of its first operand that are demanded of its result."""
    name, op, kind, operands, _, _ = instruction
    if op not in ("and", "or", "xor") or operands[1][0] != "int":
        return False
    mask = masks.get(name, top_of(kind))
    c = operands[1][2]
    return mask & c == mask if op == "and" else mask & c == 0


def _demand_holds(module, function, table, demand):
    """Tell whether a value table and a demand table hold."""
    return holds_values(module, function, table) and holds_demand(function, table, demand)


def demanded(module, step):
    """Replace a result by the operand that has the same bits where it matters."""
    _, name, table, demand, label, k = step
    function, block = block_in(module, name, label)
    instruction = instruction_at(block, k)
    if instruction is None or not _demand_holds(module, function, table, demand):
        return None
    masks = {known: mask for known, mask in demand}
    if not _keeps_bits(instruction, masks):
        return None
    return put_function(module, change_names(function, {instruction[0]: instruction[3][0]}))


def undemanded(module, step):
    """Replace names by 0 that do not matter."""
    _, name, table, demand, names = step
    function = find_function(module, name)
    if function is None or not _are_integers(function, names) or not _demand_holds(module, function, table, demand):
        return None
    masks = {known: mask for known, mask in demand}
    params = {param: True for param, _ in function[3][0][1]}
    if any([param in params or masks.get(param, 1) != 0 for param in names]):
        return None
    kinds = kinds_of(function)
    return put_function(module, change_names(function, {known: ("int", kinds[known], 0) for known in names}))


def _comes_before(scope, x, y):
    """Tell whether y is defined ahead of x on each path, or both are params of one block."""
    label, k = scope.places[x]
    other, j = scope.places[y]
    if label == other:
        return j < k or j == k == -1
    return scope.strictly(other, label)


def equal(module, step):
    """Replace names by others of their classes."""
    _, name, table, pairs = step
    function = find_function(module, name)
    replaced = {x: ("name", y) for x, y in pairs}
    if function is None or not rises([x for x, _ in pairs]) or not holds_equations(function, table):
        return None
    classes = {known: row[0] for row in table for known in row}
    scope = Scope(function)
    for x, y in pairs:
        if x not in classes or classes.get(y) != classes[x] or not _comes_before(scope, x, y):
            return None
        if x != y and y in replaced:
            return None
    return put_function(module, change_names(function, replaced))


def linear(module, step):
    """Replace a result by an operand that has the same linear form."""
    _, name, table, equations, label, k, operand = step
    function, block = block_in(module, name, label)
    instruction = instruction_at(block, k)
    if instruction is None or not is_pure(instruction) or result_kind(instruction) == "ptr":
        return None
    if operand_kind(kinds_of(function), operand) != result_kind(instruction):
        return None
    if not Scope(function).available(operand, label, k) or not holds_values(module, function, table):
        return None
    if not holds_linear(function, table, equations):
        return None
    result = ("name", instruction[0])
    if linear_form(function, equations, result) != linear_form(function, equations, operand):
        return None
    return replace_result(module, function, block, k, operand)
