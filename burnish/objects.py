"""Objects: allocas that are split, and globals that become constant or go."""

from burnish.allocas import allocas_of, plain_uses
from burnish.drafting import Draft, over_functions
from burnish.effects import constant_bytes
from burnish.graph import definition_places
from burnish.objectsteps import users_of
from burnish.words import size


def _united(intervals):
    """Return the list of the beginnings of intervals, those united that share a byte."""
    found = []
    last = 0
    for begin, end in sorted(intervals):
        if not found or begin >= last:
            found.append(begin)
        last = max(last, end)
    return found


def _part_sizes(users, alloca):
    """Return the list of the sizes of the parts of an alloca, [] if it has none."""
    found = plain_uses(users, alloca[0])
    whole = alloca[4][0]
    intervals = []
    for op, kind, offset in found or ():
        if op in ("load", "store"):
            if offset < 0 or offset + size(kind) > whole:
                return []
            intervals.append((offset, offset + size(kind)))
    begins = _united(intervals)
    if not begins:
        return []
    begins[0] = 0
    return [end - begin for begin, end in zip(begins, begins[1:] + [whole])]


def parts(function, name):
    """Return the list of the sizes of the parts of a plain alloca, [] if it is unsplittable or not plain."""
    alloca = [made for made in allocas_of(function) if made[0] == name]
    return _part_sizes(users_of(function), alloca[0]) if alloca else []


def _drop_geps(draft, names):
    """Replace the geps with offset 0 of new allocas by these."""
    bases = {("name", name): True for name in names}
    for label in [block[0] for block in draft.subject()[3]]:
        k = 0
        body = _body_of(draft, label)
        while k < len(body):
            made = body[k]
            if made[1] == "gep" and made[3][0] in bases and len(made[3]) == 1 and made[4] == (0,):
                if draft.emit(("rule", draft.name, label, k, 64, ())):
                    body = _body_of(draft, label)
                    continue
            k += 1


def _body_of(draft, label):
    """Return the body of a block as it is."""
    return [block[2] for block in draft.subject()[3] if block[0] == label][0]


def _split_all(draft, amount):
    """Split the plain allocas of a function."""
    draft.prune()
    function = draft.subject()
    users = users_of(function)
    count = 0
    for alloca in allocas_of(function):
        uses = plain_uses(users, alloca[0])
        sizes = _part_sizes(users, alloca)
        if count >= amount or len(sizes) < 2 or any([op == "kill" for op, _, _ in uses]):
            continue
        label, k = definition_places(draft.subject())[alloca[0]]
        names = draft.new_names(len(sizes))
        if draft.emit(("split_alloca", draft.name, label, k, tuple(sizes), names)):
            count += 1
            _drop_geps(draft, names)


def split(module, name, *, amount=1000):
    """Return the certificate that makes several allocas of one."""
    return over_functions(module, name, _split_all, amount)


def _load_constants(draft, amount):
    """Replace the loads of a function that read constants."""
    results = {made[0]: made for block in draft.subject()[3] for made in block[2]}
    for label in [block[0] for block in draft.subject()[3]]:
        k = 0
        body = _body_of(draft, label)
        while k < len(body) and len(draft.emitted) < amount:
            found = constant_bytes(draft.whole, results, body[k])
            if found is not None and draft.emit(("constant_load", draft.name, label, k)):
                body = _body_of(draft, label)
            else:
                k += 1


def _unused_geps(function):
    """Return the ascending list of the geps that lead to nothing else than geps that nothing uses."""
    users = users_of(function)
    counts = {}
    geps = {}
    for block in function[3]:
        for made in block[2]:
            if made[1] == "gep":
                geps[made[0]] = made
                counts[made[0]] = len(users.get(("name", made[0]), ()))
    waiting = [name for name in geps if counts[name] == 0]
    found = []
    while waiting:
        name = waiting.pop()
        found.append(name)
        for operand in geps[name][3]:
            if operand[0] == "name" and operand[1] in geps:
                counts[operand[1]] -= 1
                if counts[operand[1]] == 0:
                    waiting.append(operand[1])
    return sorted(found)


def globals_pass(module, name, *, amount=1000):
    """Return the certificate that makes globals constant, reads them and drops them."""
    draft = Draft(module, name)
    names = [function[0] for function in module[1]]
    for record in module[0]:
        if not record[1] and len(draft.emitted) < amount:
            draft.emit(("fix_global", record[0]))
    for own in names:
        draft.name = own
        _load_constants(draft, amount)
    for own in names:
        draft.name = own
        unused = tuple(_unused_geps(draft.subject()))
        if unused and len(draft.emitted) < amount:
            draft.emit(("drop_names", own, unused))
    for record in module[0]:
        if len(draft.emitted) < amount:
            draft.emit(("drop_global", record[0]))
    return tuple(draft.emitted)
