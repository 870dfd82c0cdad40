"""The kernel: steps that are done or refused, and certificates."""

from burnish.callsteps import (
    drop_argument, drop_function, drop_result, inline, same_argument, same_function, split_entry, tail,
)
from burnish.faults import function_faults, is_valid
from burnish.forms import has_shape
from burnish.graphsteps import (
    as_condbr, cut, drop_case, edge_value, fold_end, fork, gather, join, prune, rename, skip, swap,
)
from burnish.memsteps import dead_store, delete_load, forward, insert_load, same_store, unread_store
from burnish.objectsteps import constant_load, drop_global, drop_kills, fix_global, split_alloca
from burnish.paramsteps import add_param, copy, copy_region, same_param, use_params
from burnish.records import find_function
from burnish.scopes import reached
from burnish.twins import twins
from burnish.valuesteps import (
    delete_call, demanded, drop_names, equal, insert, linear, move, prefer, ranged_rule, ranges, rule, same, undemanded,
)

STEPS = {
    "prune": prune, "fold_end": fold_end, "drop_case": drop_case, "as_condbr": as_condbr, "swap": swap,
    "join": join, "cut": cut, "skip": skip, "gather": gather, "copy": copy, "copy_region": copy_region,
    "twins": twins, "add_param": add_param, "same_param": same_param, "use_params": use_params, "fork": fork,
    "edge_value": edge_value, "rename": rename, "insert": insert, "drop_names": drop_names,
    "delete_call": delete_call, "delete_load": delete_load, "same": same, "prefer": prefer, "move": move,
    "rule": rule, "ranged_rule": ranged_rule, "ranges": ranges, "demanded": demanded, "undemanded": undemanded,
    "equal": equal, "linear": linear, "forward": forward, "same_store": same_store, "insert_load": insert_load,
    "dead_store": dead_store, "unread_store": unread_store, "split_alloca": split_alloca, "drop_kills": drop_kills,
    "constant_load": constant_load, "fix_global": fix_global, "drop_global": drop_global, "inline": inline,
    "split_entry": split_entry, "tail": tail, "drop_argument": drop_argument, "same_argument": same_argument,
    "drop_result": drop_result, "same_function": same_function, "drop_function": drop_function,
}


# Where the condition of one of these steps holds, the changed module has no faults.
_FAULTLESS = (
    "prune", "fold_end", "drop_case", "as_condbr", "swap", "cut", "skip", "gather", "copy", "add_param", "same_param",
    "fork", "edge_value", "rename", "insert", "drop_names", "delete_call", "delete_load", "prefer", "move", "ranges",
    "demanded", "undemanded", "equal", "forward", "same_store", "insert_load", "dead_store", "unread_store",
    "split_alloca", "drop_kills", "constant_load", "inline",
)

# The same, if a path reaches every block: elsewhere a name may stand for itself.
_FAULTLESS_REACHED = (
    "join", "copy_region", "twins", "use_params", "same", "rule", "ranged_rule", "linear", "tail",
)


def _needs_no_look(module, step):
    """Tell whether a step that was done makes no faults, whatever else is in the module."""
    if step[0] in _FAULTLESS:
        return True
    if step[0] not in _FAULTLESS_REACHED:
        return False
    function = find_function(module, step[1])
    return len(reached(function)) == len(function[3])


def _outline(module):
    """Return what functions know of each other, and of the globals."""
    functions = []
    for name, kind, internal, blocks in module[1]:
        functions.append((name, kind, internal, [its for _, its in blocks[0][1]]))
    return ([record[0] for record in module[0]], functions)


def _has_no_faults(module, changed):
    """Tell whether a module made from one without faults has none either."""
    if _outline(module) != _outline(changed):
        return is_valid(changed)
    # A function that did not change has no faults, as what it knows of the others did not change.
    new = [function for function, old in zip(changed[1], module[1]) if function != old]
    return all([function_faults(changed, function) == [] for function in new])


def apply_step(module, step):
    """Return the module that a step makes, None if the step is refused."""
    if not has_shape(step):
        return None
    action = STEPS[step[0]]
    changed = action(module, step)
    if changed is None or _needs_no_look(module, step) or _has_no_faults(module, changed):
        return changed
    return None


def check(module, certificate):
    """Return (module, -1) with the last module of a certificate, or (None, i) if its step i is refused."""
    if not isinstance(certificate, tuple):
        return (None, 0)
    for i, step in enumerate(certificate):
        changed = apply_step(module, step)
        if changed is None:
            return (None, i)
        module = changed
    return (module, -1)
