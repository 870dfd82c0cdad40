"""Steps that change calls and functions."""

from burnish.edits import (
    are_new_labels, are_new_names, block_in, block_names, change_names, instruction_at, is_known, is_used, used_names,
    uses, with_blocks, with_body,
)
from burnish.graphsteps import changed_block
from burnish.records import canonical, find_function, put_block, put_function


def inlined_names(callee):
    """Return the list of the names that a function defines, without its parameters."""
    names = [made for block in callee[3] for made in block_names(block)]
    return names[len(callee[3][0][1]):]


def _returning(block, kills, label):
    """Return a copied block that, where it returned, goes on at a label behind kills."""
    end = block[3]
    if end[0] != "ret":
        return block
    passed = () if end[1] is None else (end[1],)
    return (block[0], block[1], block[2] + kills, ("br", (label, passed)))


def _copies(callee, call, label, labels, names):
    """Return the list of the copies of the blocks of a function for a call; they go on at a label."""
    new_labels = {block[0]: new for block, new in zip(callee[3], labels)}
    new_names = {old: new for old, new in zip(inlined_names(callee), names)}
    changes = {old: ("name", new) for old, new in new_names.items()}
    for (param, _), operand in zip(callee[3][0][1], call[3]):
        changes[param] = operand
    allocas = [new_names[made[0]] for block in callee[3] for made in block[2] if made[1] == "alloca"]
    kills = tuple([(-1, "kill", "void", (("name", made),), (), -1) for made in allocas])
    copies = []
    for block in callee[3]:
        params = block[1] if copies else ()
        copied = changed_block((block[0], params) + block[2:], new_labels, new_names, changes)
        copies.append(_returning(copied, kills, label))
    return copies


def is_inlinable(callee):
    """Tell whether all allocas of a function are in its entry."""
    return not any([made[1] == "alloca" for block in callee[3][1:] for made in block[2]])


def inline(module, step):
    """Put the blocks of a function in the place of a call of it."""
    _, name, label, k, fresh, labels, names = step
    function, block = block_in(module, name, label)
    call = instruction_at(block, k)
    if call is None or call[1] != "call" or call[4][0] == name:
        return None
    callee = find_function(module, call[4][0])
    if callee is None or not is_inlinable(callee) or len(labels) != len(callee[3]):
        return None
    own = 0 if callee[1] == "void" else 1
    if len(names) != own + len(inlined_names(callee)):
        return None
    if not are_new_names(function, names) or not are_new_labels(function, (fresh,) + labels):
        return None
    params = tuple([(result, callee[1]) for result in names[:own]])
    _, _, body, end = block
    first = put_block(function, (label, block[1], body[:k], ("br", (labels[0], ()))))
    behind = [(fresh, params, body[k + 1:], end)] + _copies(callee, call, fresh, labels, names[own:])
    joined = with_blocks(first, list(first[3]) + behind)
    if own:
        joined = change_names(joined, {call[0]: ("name", names[0])})
    return put_function(module, joined)


def split_entry(module, step):
    """Give a function a new entry that leads to the old one."""
    _, name, label, names = step
    function = find_function(module, name)
    if function is None:
        return None
    old, params = function[3][0][:2]
    if len(names) != len(params) or not are_new_names(function, names) or not are_new_labels(function, [label]):
        return None
    own = tuple([(new, kind) for new, (_, kind) in zip(names, params)])
    entry = (label, own, (), ("br", (old, tuple([("name", new) for new in names]))))
    return put_function(module, with_blocks(function, [entry] + list(function[3])))


def passes_on(function):
    """Tell whether the entry of a function only passes its parameters on, and nothing else uses these."""
    _, params, body, end = function[3][0]
    if body or end[0] != "br" or end[1][1] != tuple([("name", param) for param, _ in params]):
        return False
    return all([len(uses(function, param)) == 1 for param, _ in params])


def is_tail(function, block):
    """Tell whether a block ends with a call of its own function and returns just what that gives."""
    _, _, body, end = block
    if not body or body[-1][1] != "call" or body[-1][4] != (function[0],) or end[0] != "ret":
        return False
    return end[1] is None if function[1] == "void" else end[1] == ("name", body[-1][0])


def tail(module, step):
    """Let a block go on at the beginning of its function instead of calling it."""
    _, name, label = step
    function, block = block_in(module, name, label)
    if block is None or not passes_on(function) or not is_tail(function, block):
        return None
    _, params, body, _ = block
    end = ("br", (function[3][0][3][1][0], body[-1][3]))
    return put_function(module, put_block(function, (label, params, body[:-1], end)))


def calls_of(function, name):
    """Return the list of the calls of a function of this name in a function."""
    return [made for block in function[3] for made in block[2] if made[1] == "call" and made[4] == (name,)]


def _with_calls(module, name, change):
    """Return the module with each call of a function changed."""
    functions = []
    for function in module[1]:
        blocks = []
        for block in function[3]:
            body = [change(made) if made[1] == "call" and made[4] == (name,) else made for made in block[2]]
            blocks.append(with_body(block, body))
        functions.append(with_blocks(function, blocks))
    return (module[0], tuple(functions))


def _internal(module, name):
    """Return the internal function of this name, or None."""
    function = find_function(module, name)
    return function if function is not None and function[2] else None


def drop_argument(module, step):
    """Remove a parameter that nothing uses."""
    _, name, i = step
    function = _internal(module, name)
    if function is None or not 0 <= i < len(function[3][0][1]):
        return None
    label, params, body, end = function[3][0]
    if is_used(function, params[i][0]):
        return None
    taking = put_block(function, (label, params[:i] + params[i + 1:], body, end))

    def changed(call):
        return call[:3] + (call[3][:i] + call[3][i + 1:],) + call[4:]

    return _with_calls(put_function(module, taking), name, changed)


def same_argument(module, step):
    """Replace a parameter by the only operand that is passed for it."""
    _, name, i, operand = step
    function = _internal(module, name)
    if function is None or operand[0] == "name" or not 0 <= i < len(function[3][0][1]):
        return None
    # Where the parameter is used, an operand of another kind makes faults.
    param = function[3][0][1][i][0]
    if not is_known(module, operand):
        return None
    for other in module[1]:
        for call in calls_of(other, name):
            if call[3][i] != operand and not (other[0] == name and call[3][i] == ("name", param)):
                return None
    return put_function(module, change_names(function, {param: operand}))


def drop_result(module, step):
    """Let a function return nothing whose result nothing uses."""
    name = step[1]
    function = _internal(module, name)
    if function is None or function[1] == "void":
        return None
    for other in module[1]:
        used = used_names(other)
        if any([call[0] in used for call in calls_of(other, name)]):
            return None
    blocks = []
    for label, params, body, end in function[3]:
        blocks.append((label, params, body, ("ret", None) if end[0] == "ret" else end))
    changed = put_function(module, (name, "void", function[2], tuple(blocks)))
    return _with_calls(changed, name, lambda call: (-1, "call", "void") + call[3:])


def drop_function(module, step):
    """Remove a function that no other one calls."""
    name = step[1]
    if _internal(module, name) is None:
        return None
    if any([other[0] != name and calls_of(other, name) for other in module[1]]):
        return None
    return (module[0], tuple([other for other in module[1] if other[0] != name]))


def nameless(function):
    """Return a function without its name, and with names, labels and calls of itself made canonical."""
    name, kind, internal, blocks = canonical(function)
    changed = []
    for label, params, body, end in blocks:
        rows = []
        for made in body:
            rows.append(made[:4] + (("",),) + made[5:] if made[1] == "call" and made[4] == (name,) else made)
        changed.append((label, params, tuple(rows), end))
    return (kind, internal, tuple(changed))


def same_function(module, step):
    """Let calls of a function become calls of another one that does the same."""
    _, name, other = step
    function, twin = find_function(module, name), find_function(module, other)
    if function is None or twin is None or name == other or nameless(function) != nameless(twin):
        return None
    changed = _with_calls(module, name, lambda call: call[:4] + ((other,),) + call[5:])
    # The calls of itself stay; nothing else calls it now.
    return put_function(changed, function)
