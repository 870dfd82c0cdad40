"""Steps that copy blocks, and steps that add, remove and use the params of blocks."""

from burnish.edits import (
    Scope, are_new_labels, are_new_names, block_in, block_names, block_uses, change_block, change_names, edges_into,
    incoming, is_known, is_used_outside, with_blocks,
)
from burnish.graphsteps import changed_block, lead_edges, renamed_block
from burnish.records import edges, find_function, put_block, put_function, with_edges
from burnish.scopes import kinds_of, operand_kind
from burnish.tables import rises


def _numbered(olds, news):
    """Return a dict from each old name or label to the new one in its place."""
    return {old: new for old, new in zip(olds, news)}


def copy(module, step):
    """Let edges lead to a copy of a block."""
    _, name, label, fresh, names, places = step
    function, block = block_in(module, name, label)
    if block is None or label == function[3][0][0] or is_used_outside(function, block):
        return None
    own = block_names(block)
    if len(names) != len(own) or not are_new_names(function, names) or not are_new_labels(function, [fresh]):
        return None
    if not edges_into(function, label, places):
        return None
    # An edge of the block to itself keeps its label in the copy.
    made = (fresh,) + renamed_block(block, {}, _numbered(own, names))[1:]
    led = lead_edges(function, places, fresh)
    return put_function(module, with_blocks(led, list(led[3]) + [made]))


def _region(function, header, labels):
    """Return the list of the blocks with these labels if they can be copied as a region, else None."""
    inside = {label: True for label in labels}
    blocks = {block[0]: block for block in function[3]}
    scope = Scope(function)
    if not rises(labels) or header not in inside or header == function[3][0][0]:
        return None
    for label in labels:
        if label not in blocks or label != header and not scope.strictly(header, label):
            return None
    own = {name: True for label in labels for name in block_names(blocks[label])}
    for block in function[3]:
        if block[0] in inside:
            continue
        if block_uses(block, own) or any([target in inside and target != header for target, _ in edges(block[3])]):
            return None
    return [blocks[label] for label in labels]


def copy_region(module, step):
    """Let edges lead to a copy of a region of blocks that is entered by its header alone."""
    _, name, header, labels, fresh, names, places = step
    function = find_function(module, name)
    if function is None or len(fresh) != len(labels) or not are_new_labels(function, fresh):
        return None
    region = _region(function, header, labels)
    if region is None:
        return None
    own = [made for block in region for made in block_names(block)]
    if len(names) != len(own) or not are_new_names(function, names) or not edges_into(function, header, places):
        return None
    if any([label in labels for label, _ in places]):
        return None
    new_labels = _numbered(labels, fresh)
    new_names = _numbered(own, names)
    changes = {old: ("name", new) for old, new in new_names.items()}
    made = [changed_block(block, new_labels, new_names, changes) for block in region]
    led = lead_edges(function, places, new_labels[header])
    return put_function(module, with_blocks(led, list(led[3]) + made))


def _with_arguments(function, label, change):
    """Return the function with the args of each edge into a block changed.

    `change` is a function of the place (label, slot) of an edge and its args.
    """
    changed = []
    for block in function[3]:
        row = []
        for slot, (target, operands) in enumerate(edges(block[3])):
            row.append((target, change((block[0], slot), operands) if target == label else operands))
        changed.append(block[:3] + (with_edges(block[3], row),))
    return with_blocks(function, changed)


def _fits_edges(module, function, kind, into, operands):
    """Tell whether each edge has an operand of a kind that is available at its end."""
    scope = Scope(function)
    kinds = kinds_of(function)
    lengths = {block[0]: len(block[2]) for block in function[3]}
    for (label, _), operand in zip(into, operands):
        if operand_kind(kinds, operand) != kind or not is_known(module, operand):
            return False
        if not scope.available(operand, label, lengths[label]):
            return False
    return True


def add_param(module, step):
    """Give a block one more param."""
    _, name, label, fresh, kind, operands = step
    function, block = block_in(module, name, label)
    if block is None or label == function[3][0][0] or not are_new_names(function, [fresh]):
        return None
    into = incoming(function, label)
    if len(operands) != len(into) or not _fits_edges(module, function, kind, into, operands):
        return None
    passed = _numbered(into, operands)
    taking = put_block(function, (label, block[1] + ((fresh, kind),), block[2], block[3]))
    return put_function(module, _with_arguments(taking, label, lambda place, told: told + (passed[place],)))


def arguments_for(function, label, i):
    """Return the list of the arguments that the edges into a block pass for its param i."""
    return [operands[i] for block in function[3] for target, operands in edges(block[3]) if target == label]


def same_param(module, step):
    """Replace a param by the only operand that is passed for it."""
    _, name, label, i, operand = step
    function, block = block_in(module, name, label)
    if block is None or label == function[3][0][0] or not 0 <= i < len(block[1]):
        return None
    param = block[1][i][0]
    passed = arguments_for(function, label, i)
    if operand not in passed or not all([other in (operand, ("name", param)) for other in passed]):
        return None
    if not Scope(function).outer(operand, label):
        return None
    taking = put_block(function, (label, block[1][:i] + block[1][i + 1:], block[2], block[3]))
    passing = _with_arguments(taking, label, lambda place, told: told[:i] + told[i + 1:])
    return put_function(module, change_names(passing, {param: operand}))


def _passed_name(function, params):
    """Return the one operand beside params of blocks that is passed for these params, None if that is no name.

    `params` is a dict from labels to pairs: the place of a param and the param as an operand.
    """
    own = {param: True for _, param in params.values()}
    found = {}
    for block in function[3]:
        for target, operands in edges(block[3]):
            if target in params and operands[params[target][0]] not in own:
                found[operands[params[target][0]]] = True
    names = [operand for operand in found if operand[0] == "name"]
    return names[0] if len(found) == 1 and names else None


def use_params(module, step):
    """Let blocks use their params for the name that is passed for them."""
    _, name, pairs = step
    function = find_function(module, name)
    if function is None or not pairs or not rises(pairs):
        return None
    blocks = {block[0]: block for block in function[3]}
    params = {}
    for label, i in pairs:
        if label not in blocks or label in params or label == function[3][0][0]:
            return None
        if not 0 <= i < len(blocks[label][1]):
            return None
        params[label] = (i, ("name", blocks[label][1][i][0]))
    used = _passed_name(function, params)
    scope = Scope(function)
    if used is None or not all([scope.outer(used, label) for label in params]):
        return None
    changed = []
    for block in function[3]:
        changed.append(change_block(block, {used[1]: params[block[0]][1]}) if block[0] in params else block)
    return put_function(module, with_blocks(function, changed))
