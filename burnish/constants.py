"""Constants: names that can have one value only, and ends that take one edge only."""

from burnish.drafting import Draft, cut_to
from burnish.edits import block_names, used_names
from burnish.graphsteps import taken_edge
from burnish.lattice import is_single
from burnish.solve import solve_values
from burnish.values import live_labels


def _single_names(function, table):
    """Return the ascending tuple of the names in use, of live labels, that have one value by a table."""
    used = used_names(function)
    live = {label: True for label in live_labels(function, table[0])}
    alive = {name: True for block in function[3] if block[0] in live for name in block_names(block)}
    return tuple([name for name in single_facts(table) if name in used and name in alive])


def single_facts(table):
    """Return the ascending list of the names that have one value by a table."""
    # The fact of a pointer is a tuple of sites, each of which is a tuple.
    ranges = [(name, fact) for name, fact in table[2] if fact and not isinstance(fact[0], tuple)]
    return [name for name, fact in ranges if is_single(fact)]


def constants(module, name, *, amount=0):
    """Return the certificate that puts values for names and folds ends."""
    draft = Draft(module, name)
    table = solve_values(module, draft.subject())
    names = _single_names(draft.subject(), table)
    if names:
        draft.emit(("ranges", name, table, names))
    for block in draft.subject()[3]:
        if taken_edge(block[3]) is not None:
            draft.emit(("fold_end", name, block[0]))
    draft.prune()
    return cut_to(draft.emitted, amount)
