"""Steps that change blocks and edges.

Each step is a function `word(module, step)`, which returns the changed module,
or None if a condition of the step does not hold.
"""

from burnish.edits import (
    Scope, are_new_labels, are_new_names, block_in, change_names, edge_at, edges_into, incoming, is_used_outside,
    renaming, uses, with_blocks,
)
from burnish.records import (
    edges, find_block, find_function, map_end, map_instruction, map_labels, put_block, put_function, with_edge,
    with_edges,
)
from burnish.scopes import kinds_of, operand_kind, reached
from burnish.words import opposite

# Names and labels are below this number.
_LIMIT = 10 ** 9


def prune(module, step):
    """Remove the blocks that no path reaches."""
    function = find_function(module, step[1])
    if function is None:
        return None
    alive = {label: True for label in reached(function)}
    return put_function(module, with_blocks(function, [block for block in function[3] if block[0] in alive]))


def _put_end(module, function, block, end):
    """Return the module with this end of the block."""
    label, params, body, _ = block
    return put_function(module, put_block(function, (label, params, body, end)))


def taken_edge(end):
    """Return the edge that a condbr or switch takes always, or None."""
    if end[0] not in ("condbr", "switch"):
        return None
    row = edges(end)
    if all([edge == row[0] for edge in row]):
        return row[0]
    if end[1][0] != "int":
        return None
    if end[0] == "condbr":
        return row[0] if end[1][2] == 1 else row[1]
    values = [value for value, _ in end[2]]
    return row[values.index(end[1][2])] if end[1][2] in values else row[-1]


def fold_end(module, step):
    """Let a block end with br along the only edge that it takes."""
    function, block = block_in(module, step[1], step[2])
    if block is None or taken_edge(block[3]) is None:
        return None
    return _put_end(module, function, block, ("br", taken_edge(block[3])))


def drop_case(module, step):
    """Remove a case of a switch that has the edge of the default."""
    _, name, label, i = step
    function, block = block_in(module, name, label)
    if block is None or block[3][0] != "switch":
        return None
    _, operand, cases, default = block[3]
    if not 0 <= i < len(cases) or cases[i][1] != default:
        return None
    return _put_end(module, function, block, ("switch", operand, cases[:i] + cases[i + 1:], default))


def as_condbr(module, step):
    """Let a block with a switch of one case end with condbr."""
    _, name, label, fresh = step
    function, block = block_in(module, name, label)
    if block is None or block[3][0] != "switch" or len(block[3][2]) != 1 or not are_new_names(function, [fresh]):
        return None
    _, operand, ((number, edge),), default = block[3]
    kind = operand_kind(kinds_of(function), operand)
    instruction = (fresh, "icmp", kind, (operand, ("int", kind, number)), ("eq",), -1)
    changed = (label, block[1], block[2] + (instruction,), ("condbr", ("name", fresh), edge, default))
    return put_function(module, put_block(function, changed))


def swap(module, step):
    """Let a condbr take its edges in the other order."""
    function, block = block_in(module, step[1], step[2])
    if block is None or block[3][0] != "condbr" or block[3][1][0] != "name":
        return None
    label, params, body, (_, condition, first, second) = block
    changed = []
    for instruction in body:
        if instruction[0] == condition[1] and instruction[1] == "icmp":
            name, op, kind, operands, data, place = instruction
            instruction = (name, op, kind, operands, (opposite(data[0]),), place)
        changed.append(instruction)
    if tuple(changed) == body or len(uses(function, condition[1])) != 1:
        return None
    end = ("condbr", condition, second, first)
    return put_function(module, put_block(function, (label, params, tuple(changed), end)))


def join(module, step):
    """Put a block behind the only block that leads to it."""
    _, name, label = step
    function, block = block_in(module, name, label)
    if block is None or block[3][0] != "br":
        return None
    target, operands = block[3][1]
    if target in (label, function[3][0][0]) or incoming(function, target) != [(label, 0)]:
        return None
    _, params, body, end = find_block(function, target)
    joined = put_block(function, (label, block[1], block[2] + body, end))
    left = with_blocks(joined, [other for other in joined[3] if other[0] != target])
    changes = {param: operand for (param, _), operand in zip(params, operands)}
    return put_function(module, change_names(left, changes))


def cut(module, step):
    """Move what stands from a position on to a block of its own."""
    _, name, label, k, fresh = step
    function, block = block_in(module, name, label)
    if block is None or not 0 <= k <= len(block[2]) or not are_new_labels(function, [fresh]):
        return None
    _, params, body, end = block
    first = put_block(function, (label, params, body[:k], ("br", (fresh, ()))))
    return put_function(module, with_blocks(first, list(first[3]) + [(fresh, (), body[k:], end)]))


def skip(module, step):
    """Let an edge lead past a block that does nothing."""
    _, name, label, slot = step
    function, block = block_in(module, name, label)
    if block is None:
        return None
    edge = edge_at(function, label, slot)
    if edge is None or edge[0] == label:
        return None
    passed = find_block(function, edge[0])
    if not is_passage(function, passed):
        return None
    change = renaming({param: operand for (param, _), operand in zip(passed[1], edge[1])})
    target, operands = passed[3][1]
    moved = (target, tuple([change(operand) for operand in operands]))
    return _put_end(module, function, block, with_edge(block[3], slot, moved))


def is_passage(function, block):
    """Tell whether a block has an empty body, ends with br, and alone uses its params."""
    return block[2] == () and block[3][0] == "br" and not is_used_outside(function, block)


def gather(module, step):
    """Let edges to one block lead to a new block ahead of it."""
    _, name, fresh, names, places = step
    function = find_function(module, name)
    if function is None or not places or not are_new_labels(function, [fresh]) or not are_new_names(function, names):
        return None
    edge = edge_at(function, places[0][0], places[0][1])
    if edge is None or not edges_into(function, edge[0], places):
        return None
    params = find_block(function, edge[0])[1]
    if len(names) != len(params):
        return None
    own = tuple([(new, kind) for new, (_, kind) in zip(names, params)])
    end = ("br", (edge[0], tuple([("name", new) for new in names])))
    led = lead_edges(function, places, fresh)
    return put_function(module, with_blocks(led, list(led[3]) + [(fresh, own, (), end)]))


def lead_edges(function, places, target):
    """Return the function in which these edges lead to the target with the args they had."""
    led = {place: True for place in places}
    changed = []
    for label, params, body, end in function[3]:
        row = []
        for slot, (old, operands) in enumerate(edges(end)):
            row.append((target if (label, slot) in led else old, operands))
        changed.append((label, params, body, with_edges(end, row)))
    return with_blocks(function, changed)


def fork(module, step):
    """Let a br be taken by a condbr both ways."""
    _, name, label, operand = step
    function, block = block_in(module, name, label)
    if block is None or block[3][0] != "br" or operand_kind(kinds_of(function), operand) != "i1":
        return None
    if not Scope(function).available(operand, label, len(block[2])):
        return None
    edge = block[3][1]
    return _put_end(module, function, block, ("condbr", operand, edge, edge))


def _number_along(function, end, slot):
    """Return the operand that an end is on along the edge in a slot, None where it is not told."""
    if end[0] == "condbr" and slot in (0, 1):
        return ("int", "i1", 1 - slot)
    if end[0] == "switch" and 0 <= slot < len(end[2]):
        return ("int", operand_kind(kinds_of(function), end[1]), end[2][slot][0])
    return None


def edge_value(module, step):
    """Pass the value that the end of a block is on along an edge, in the place of its name."""
    _, name, label, slot = step
    function, block = block_in(module, name, label)
    if block is None:
        return None
    end = block[3]
    number = _number_along(function, end, slot)
    if number is None or end[1][0] != "name":
        return None
    change = renaming({end[1][1]: number})
    target, operands = edges(end)[slot]
    edge = (target, tuple([change(operand) for operand in operands]))
    return _put_end(module, function, block, with_edge(end, slot, edge))


def _renames(pairs, defined):
    """Return a dict from old to new numbers if each one is told exactly once, else None."""
    olds = [old for old, _ in pairs]
    news = [new for _, new in pairs]
    if olds != sorted(defined) or len(set(news)) != len(news):
        return None
    if not all([0 <= new < _LIMIT for new in news]):
        return None
    return {old: new for old, new in pairs}


def rename(module, step):
    """Give each label and each name of a function another number."""
    _, name, label_pairs, name_pairs = step
    function = find_function(module, name)
    if function is None:
        return None
    labels = _renames(label_pairs, [block[0] for block in function[3]])
    names = _renames(name_pairs, list(kinds_of(function)))
    if labels is None or names is None:
        return None
    return put_function(module, renamed(function, labels, names))


def renamed(function, labels, names):
    """Return the function with the labels and names that two dicts give for the old ones."""
    changes = {old: ("name", new) for old, new in names.items()}
    return with_blocks(function, [changed_block(block, labels, names, changes) for block in function[3]])


def renamed_block(block, labels, names):
    """Return the block with the labels and names of two dicts; what is not in them stays."""
    return changed_block(block, labels, names, {old: ("name", new) for old, new in names.items()})


def changed_block(block, labels, names, changes):
    """Return the block with the labels and defined names of two dicts, and operands of a third one for used names."""
    change = renaming(changes)

    def label_as(old):
        return labels.get(old, old)

    label, params, body, end = block
    rows = []
    for instruction in body:
        rows.append((names.get(instruction[0], instruction[0]),) + map_instruction(instruction, change)[1:])
    own = tuple([(names.get(param, param), kind) for param, kind in params])
    return (label_as(label), own, tuple(rows), map_labels(map_end(end, change), label_as))
