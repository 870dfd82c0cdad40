"""Arguments: parameters and results that are not needed, and functions that are the same or not called."""

from burnish.callsteps import calls_of, nameless
from burnish.drafting import Draft, cut_to
from burnish.edits import is_used


def _calls_in(module, name):
    """Return the list of pairs (name of a function, call in it) of the calls of a function."""
    return [(function[0], call) for function in module[1] for call in calls_of(function, name)]


def _only_operand(draft, i):
    """Return the operand, not a name, that all calls of a function pass for parameter i, or None."""
    own = ("name", draft.subject()[3][0][1][i][0])
    passed = {}
    for caller, call in _calls_in(draft.whole, draft.name):
        if caller != draft.name or call[3][i] != own:
            passed[call[3][i]] = True
    found = list(passed)
    return found[0] if len(found) == 1 and found[0][0] != "name" else None


def _settle_function(draft):
    """Emit all steps for the parameters and the result of an internal function."""
    count = len(draft.subject()[3][0][1])
    for i in range(count):
        operand = _only_operand(draft, i)
        if operand is not None and is_used(draft.subject(), draft.subject()[3][0][1][i][0]):
            draft.emit(("same_argument", draft.name, i, operand))
    for i in range(count - 1, -1, -1):
        if not is_used(draft.subject(), draft.subject()[3][0][1][i][0]):
            draft.emit(("drop_argument", draft.name, i))
    if draft.subject()[1] != "void":
        draft.emit(("drop_result", draft.name))


def arguments(module, name, *, amount=0):
    """Return the certificate that removes parameters and results of internal functions."""
    draft = Draft(module, name)
    before = -1
    while before < len(draft.emitted):
        before = len(draft.emitted)
        for function in module[1]:
            if function[2]:
                draft.name = function[0]
                _settle_function(draft)
    return cut_to(draft.emitted, amount)


def _is_called_by_others(module, name):
    """Tell whether a function other than this one calls it."""
    return any([caller != name for caller, _ in _calls_in(module, name)])


def merge(module, name, *, amount=0):
    """Return the certificate that lets calls of functions be calls of earlier ones that are the same."""
    draft = Draft(module, name)
    for at, function in enumerate(module[1]):
        if not _is_called_by_others(draft.whole, function[0]):
            continue
        form = nameless(draft.whole[1][at])
        for earlier in draft.whole[1][:at]:
            if nameless(earlier) == form and draft.emit(("same_function", function[0], earlier[0])):
                break
    return cut_to(draft.emitted, amount)


def _first_needless(module):
    """Return the name of the first internal function that no other one calls, or None."""
    called = {}
    for function in module[1]:
        for block in function[3]:
            for made in block[2]:
                if made[1] == "call" and made[4][0] != function[0]:
                    called[made[4][0]] = True
    for function in module[1]:
        if function[2] and function[0] not in called:
            return function[0]
    return None


def drop(module, name, *, amount=0):
    """Return the certificate that removes functions and globals that nothing uses."""
    draft = Draft(module, name)
    needless = _first_needless(draft.whole)
    while needless is not None and draft.emit(("drop_function", needless)):
        needless = _first_needless(draft.whole)
    for record in module[0]:
        draft.emit(("drop_global", record[0]))
    return cut_to(draft.emitted, amount)
