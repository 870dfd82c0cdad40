"""Inline: calls that are replaced by what they call, and calls at ends that become loops."""

from burnish.callsteps import inlined_names, is_inlinable, is_tail, passes_on
from burnish.drafting import Draft, cut_to
from burnish.records import find_function, new_label


def _small_functions(module, name, amount):
    """Return a dict with the functions that are called in their place, by their names."""
    found = {}
    for function in module[1]:
        count = sum([len(block[2]) for block in function[3]])
        if function[0] != name and count <= amount and is_inlinable(function):
            found[function[0]] = function
    return found


def inline(module, name, *, amount=30):
    """Return the certificate that replaces calls by the blocks of small functions."""
    draft = Draft(module, name)
    small = _small_functions(module, name, amount)
    calls = []
    for label, _, body, _ in find_function(module, name)[3]:
        calls.extend([(label, k) for k, made in enumerate(body) if made[1] == "call" and made[4][0] in small])
    for label, k in sorted(calls, reverse=True):
        function = draft.subject()
        body = [block[2] for block in function[3] if block[0] == label][0]
        callee = small[body[k][4][0]]
        first = new_label(function)
        labels = tuple([first + 1 + at for at in range(len(callee[3]))])
        own = 0 if callee[1] == "void" else 1
        names = draft.new_names(own + len(inlined_names(callee)))
        draft.emit(("inline", name, label, k, first, labels, names))
    return tuple(draft.emitted)


def tails(module, name, *, amount=0):
    """Return the certificate that lets a function go on at its beginning instead of calling itself at an end."""
    draft = Draft(module, name)
    function = draft.subject()
    labels = sorted([block[0] for block in function[3] if is_tail(function, block)])
    if labels and not passes_on(function):
        draft.emit(("split_entry", name, new_label(function), draft.new_names(len(function[3][0][1]))))
    for label in labels:
        draft.emit(("tail", name, label))
    return cut_to(draft.emitted, amount)
