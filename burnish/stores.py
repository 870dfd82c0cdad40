"""Stores: loads of what is known, and stores that nothing needs."""

from burnish.carrying import Facts
from burnish.drafting import over_functions
from burnish.effects import solve_effects
from burnish.memfacts import solve_memory
from burnish.memsteps import is_passed, known_result, needless_store, places_told, unread_by_loads
from burnish.safety import Safety
from burnish.solve import solve_values


def _solved(draft):
    """Return the three solved tables of the function of a draft."""
    function = draft.subject()
    values = solve_values(draft.whole, function)
    effects = solve_effects(draft.whole)
    return (values, effects, solve_memory(draft.whole, function, values, effects))


def _places(draft, facts, op, tell):
    """Return the list of the places of which something is told, block by block."""
    return places_told(draft.whole, draft.subject(), facts, op, tell)


def _forward_all(draft, amount):
    """Forward the first loads of a function, and remove the stores that change nothing."""
    draft.prune()
    facts = _solved(draft)
    loads = _places(draft, facts, "load", known_result)[:amount]
    if loads and draft.emit(("forward", draft.name, facts, tuple(sorted(loads)))):
        facts = _solved(draft)
    stores = _places(draft, facts, "store", needless_store)
    if stores:
        draft.emit(("same_store", draft.name, facts, tuple(sorted(stores))))


def forward_loads(module, name, *, amount=1000):
    """Return the certificate that replaces loads by what they give."""
    return over_functions(module, name, _forward_all, amount)


def _later_stores(body):
    """Return a dict from the index of a store to that of the next one of its kind at its pointer."""
    found = {}
    behind = {}
    for k in range(len(body) - 1, -1, -1):
        _, op, kind, operands, _, _ = body[k]
        if op == "store":
            if (kind, operands[1]) in behind:
                found[k] = behind[(kind, operands[1])]
            behind[(kind, operands[1])] = k
    return found


def _first_dead(draft, facts):
    """Return (b, k, j) of the first store that another one makes dead, or None."""
    function = draft.subject()
    safety = Safety(draft.whole, function, facts)
    for label, _, body, _ in function[3]:
        later = _later_stores(body)
        held = Facts(safety.carrier, safety.starts.get(label, ()))
        for k, made in enumerate(body):
            # A store further behind is not better: the same stands between.
            if k in later and all([is_passed(safety, between, made) for between in body[k + 1:later[k]]]):
                if safety.is_safe_store(held, made[2], made[3][1]):
                    return (label, k, later[k])
            safety.carrier.carry(held, made)
    return None


def _remove_stores(draft, amount):
    """Remove stores of a function by so many steps."""
    draft.prune()
    last = len(draft.emitted) + amount
    while len(draft.emitted) < last:
        facts = _solved(draft)
        unread = _places(draft, facts, "store", unread_by_loads)
        if unread:
            step = ("unread_store", draft.name, facts, tuple(sorted(unread)))
        else:
            dead = _first_dead(draft, facts)
            if dead is None:
                return
            step = ("dead_store", draft.name, facts) + dead
        if not draft.emit(step):
            return


def dead_stores(module, name, *, amount=1000):
    """Return the certificate that removes stores that nothing reads."""
    return over_functions(module, name, _remove_stores, amount)
