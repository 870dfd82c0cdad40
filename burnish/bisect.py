"""Bisect: which pass was wrong, and on how small a module."""

from burnish.check import check
from burnish.edits import change_names, used_names, with_blocks, with_body
from burnish.objectsteps import users_of
from burnish.records import find_block, put_block, put_function, result_kind
from burnish.run import run, same_run
from burnish.scopes import reached

_STOP = ("stop", 0)


def first_bad(module, entries, wrong):
    """Return the least number of entries behind which a module is wrong, or -1."""
    if wrong(module):
        return 0
    for k, (_, _, certificate) in enumerate(entries):
        module = check(module, certificate)[0]
        if module is None:
            break
        if wrong(module):
            return k + 1
    return -1


def first_parting(modules, inputs, fuel):
    """Return the index of the first module that does not run like the first one, or -1."""
    results = [run(modules[0], data, fuel=fuel) for data in inputs]
    for k, module in enumerate(modules):
        for data, due in zip(inputs, results):
            if not same_run(run(module, data, fuel=fuel), due):
                return k
    return -1


def _without_functions(module):
    """Return the list of the names of the internal functions that no other function calls."""
    called = {}
    for function in module[1]:
        for block in function[3]:
            for made in block[2]:
                if made[1] == "call" and made[4][0] != function[0]:
                    called[made[4][0]] = True
    return [function[0] for function in module[1] if function[2] and function[0] not in called]


def _unused_globals(module):
    """Return the list of the names of the globals that nothing uses."""
    used = {}
    for function in module[1]:
        for operand in users_of(function):
            used[operand] = True
    return [record[0] for record in module[0] if ("global", record[0]) not in used]


def _stopped(function, label):
    """Return the function with a block that stops, without the blocks that cannot be reached."""
    _, params, body, _ = find_block(function, label)
    changed = put_block(function, (label, params, body, _STOP))
    alive = {kept: True for kept in reached(changed)}
    return with_blocks(changed, [block for block in changed[3] if block[0] in alive])


def _places(function):
    """Return the ascending list of the places of the instructions of a function."""
    return sorted([(block[0], k) for block in function[3] for k in range(len(block[2]))])


def _without(function, label, k):
    """Return the function without an instruction, and with 0 for its result where that is used."""
    block = find_block(function, label)
    made = block[2][k]
    left = put_block(function, with_body(block, block[2][:k] + block[2][k + 1:]))
    if made[0] == -1:
        return left
    return change_names(left, {made[0]: ("int", result_kind(made), 0)})


def candidates(module):
    """Yield the candidates of a module, in order."""
    for name in _without_functions(module):
        yield (module[0], tuple([function for function in module[1] if function[0] != name]))
    for name in _unused_globals(module):
        yield (tuple([record for record in module[0] if record[0] != name]), module[1])
    for function in module[1]:
        for block in sorted(function[3]):
            if block[3] != _STOP:
                yield put_function(module, _stopped(function, block[0]))
    for function in module[1]:
        used = used_names(function)
        for label, k in _places(function):
            if find_block(function, label)[2][k][0] not in used:
                yield put_function(module, _without(function, label, k))
    for function in module[1]:
        used = used_names(function)
        for label, k in _places(function):
            made = find_block(function, label)[2][k]
            if made[0] in used and result_kind(made) != "ptr":
                yield put_function(module, _without(function, label, k))


def _first_wrong(module, wrong):
    """Return the first candidate that is wrong, or None."""
    for candidate in candidates(module):
        if wrong(candidate):
            return candidate
    return None


def shrink(module, wrong):
    """Return a smaller module that is wrong, or the module itself if it is not."""
    found = module if wrong(module) else None
    while found is not None:
        module = found
        found = _first_wrong(module, wrong)
    return module
