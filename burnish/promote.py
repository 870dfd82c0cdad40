"""Promote: objects that become values."""

from burnish.allocas import allocas_of, is_killed, uniform_pairs
from burnish.carrying import zero_of
from burnish.dominators import dominator_order, immediate_dominators, iterated_frontier
from burnish.drafting import over_functions
from burnish.edits import Scope, incoming
from burnish.effects import solve_effects
from burnish.graph import backwards, definition_places, graph_of
from burnish.objectsteps import users_of
from burnish.records import find_block
from burnish.values import own_names


def _drop_kills_of(draft, names, amount):
    """Drop the kills of allocas; `names` is a dict of those that are changed, at most so many."""
    users = users_of(draft.subject())
    for alloca in allocas_of(draft.subject()):
        name = alloca[0]
        if is_killed(users, name) and (name in names or len(names) < amount):
            if draft.emit(("drop_kills", draft.name, name)):
                names[name] = True


def _without_kills(draft, amount):
    """Drop the kills of the allocas of a function."""
    draft.prune()
    _drop_kills_of(draft, {}, amount)


def drop_kills(module, name, *, amount=1000):
    """Return the certificate that drops kills behind which nothing is used."""
    return over_functions(module, name, _without_kills, amount)


def uniform_allocas(function):
    """Return the list of the pairs (name, kind) of the uniform allocas without kill, in the order of definitions."""
    return uniform_pairs(function)


def _touches(made, pointer):
    """Tell how an instruction touches an alloca: "alloca", "load", "store" or "" if it does not."""
    if made[0] == pointer[1] and made[1] == "alloca":
        return "alloca"
    if made[1] == "load" and made[3][0] == pointer:
        return "load"
    return "store" if made[1] == "store" and made[3][1] == pointer else ""


class Flow:
    """How the value of a uniform alloca flows through a function."""

    def __init__(self, function, name):
        self.pointer = ("name", name)
        self.graph = graph_of(function)
        self.home = definition_places(function)[name][0]
        self.scope = Scope(function)
        self.blocks = {block[0]: block for block in function[3]}
        # The blocks that store to it or define it, those that load first, and those that do nothing with it.
        self.setting = []
        self.loading = []
        self.passing = {}
        for label, block in self.blocks.items():
            words = [word for word in [_touches(made, self.pointer) for made in block[2]] if word != ""]
            if "store" in words or "alloca" in words:
                self.setting.append(label)
            if words[:1] == ["load"]:
                self.loading.append(label)
            if not words:
                self.passing[label] = True

    def wanting(self):
        """Return a dict with the labels of the blocks that want the value."""
        sources = backwards(self.graph)
        found = {at: True for at in self.loading}
        waiting = list(self.loading)
        while waiting:
            label = waiting.pop()
            for source in sources[label]:
                if source in self.passing and source not in found:
                    found[source] = True
                    waiting.append(source)
        return found

    def joins(self):
        """Return the ascending list of the joins."""
        wanting = self.wanting()
        frontier = iterated_frontier(self.graph, self.setting)
        return [label for label in frontier if label in wanting and self.scope.strictly(self.home, label)]

    def value_behind(self, label, value, kind):
        """Return the value behind the body of a block, for that at its start."""
        for made in self.blocks[label][2]:
            word = _touches(made, self.pointer)
            if word == "alloca":
                value = zero_of(kind)
            elif word == "store":
                value = made[3][0]
        return value

    def facts_for(self, kind, params):
        """Return the memory table of the value; `params` is a dict from the joins to their params."""
        wanting = self.wanting()
        tree = immediate_dominators(self.graph)
        behind = {}
        rows = []
        for label in dominator_order(self.graph, tree):
            value = None
            if self.scope.strictly(self.home, label):
                value = params[label] if label in params else behind[tree[label]]
                if label in wanting:
                    rows.append((label, ((self.pointer, kind, value),)))
            behind[label] = self.value_behind(label, value, kind)
        return tuple(sorted(rows))


def joins(function, name):
    """Return the ascending list of the labels of the joins of a uniform alloca."""
    return Flow(function, name).joins()


def _plain_table(function, name):
    """Return the plain value table of a uniform alloca."""
    escaped = tuple(sorted([own for own in own_names(function) if own != name]))
    return ((), escaped, ((name, (("at", name),)),))


def _add_joins(draft, name, kind):
    """Give the joins params; return a dict from each join to its param, None if a step is refused."""
    function = draft.subject()
    facts = (_plain_table(function, name), solve_effects(draft.whole), ())
    params = {}
    for join in joins(function, name):
        operands = []
        for label, _ in incoming(function, join):
            fresh = draft.new_names(1)[0]
            load = (fresh, "load", kind, (("name", name),), (), 0)
            count = len(find_block(draft.subject(), label)[2])
            if not draft.emit(("insert_load", draft.name, facts, label, count, load)):
                return None
            operands.append(("name", fresh))
        fresh = draft.new_names(1)[0]
        if not draft.emit(("add_param", draft.name, join, fresh, kind, tuple(operands))):
            return None
        params[join] = ("name", fresh)
    return params


def _places_of(function, name, word):
    """Return the ascending tuple of the places of the loads or stores of an alloca."""
    found = []
    for label, _, body, _ in function[3]:
        found.extend([(label, k) for k, made in enumerate(body) if _touches(made, ("name", name)) == word])
    return tuple(sorted(found))


def _emit_at(draft, word, name, touch, memory):
    """Emit a step for all loads or stores of an alloca, if there are any; tell whether it was not refused."""
    function = draft.subject()
    places = _places_of(function, name, touch)
    facts = (_plain_table(function, name), solve_effects(draft.whole), memory)
    return places == () or draft.emit((word, draft.name, facts, places))


def _promote_one(draft, name, kind):
    """Make values of an alloca; tell whether no step was refused."""
    params = _add_joins(draft, name, kind)
    if params is None:
        return False
    memory = Flow(draft.subject(), name).facts_for(kind, params)
    if not _emit_at(draft, "forward", name, "load", memory) or not _emit_at(draft, "unread_store", name, "store", ()):
        return False
    return draft.emit(("drop_names", draft.name, (name,)))


def _promote_all(draft, amount):
    """Promote the uniform allocas of a function."""
    draft.prune()
    changed = {}
    before = -1
    # What was stored in an alloca may be the only other use of another one, so that there are several turns.
    while before < len(draft.emitted):
        before = len(draft.emitted)
        _drop_kills_of(draft, changed, amount)
        for name, kind in uniform_pairs(draft.subject()):
            if name not in changed and len(changed) >= amount:
                continue
            mark = draft.mark()
            if _promote_one(draft, name, kind):
                changed[name] = True
            else:
                draft.back_to(mark)


def promote(module, name, *, amount=1000):
    """Return the certificate that makes values of allocas."""
    return over_functions(module, name, _promote_all, amount)
