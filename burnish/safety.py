"""Safety: which loads and stores of a function cannot trap, and which stores no load reads.

What is told here rests on three tables that hold.
"""

from burnish.carrying import Carrier
from burnish.effects import callee_effects
from burnish.records import builtin
from burnish.values import OUTSIDE
from burnish.words import size

# What `base_of` returns for a pointer that leads to no alloca.
_NOWHERE = (-1, 0)


class Safety:
    """What the three tables say of the loads and stores of a function."""

    def __init__(self, module, function, facts):
        values, effects, memory = facts
        self.carrier = Carrier(module, function, values, effects)
        self.knowledge = self.carrier.knowledge
        self.blocks = {block[0]: block for block in function[3]}
        self.starts = {label: told for label, told in memory}
        self.constants = {("global", record[0]): True for record in module[0] if record[1]}
        self.allocas = {}
        self.known_bases = {}
        for name, maker in self.knowledge.results.items():
            if maker[1] == "alloca":
                self.allocas[name] = maker[4][0]
                self.known_bases[name] = (name, 0)
        self.killed = {}
        self.calls_free = False
        # From each site to what stores to it: the pointers of kind ptr, and whether there are others.
        self.pointers_put = {}
        self.integers_put = {}
        # From each site to the allocas that loads from it lead to, and the bytes that they read there.
        self.readers = {}
        self.bytes_read = {}
        for block in function[3]:
            for instruction in block[2]:
                self.note(module, effects, instruction)

    def note(self, module, effects, instruction):
        """Note what an instruction does to memory."""
        _, op, kind, operands, data, _ = instruction
        if op == "load":
            self.note_load(kind, operands[0])
        elif op == "store":
            for site in self.knowledge.sites_of(operands[1]):
                if kind == "ptr":
                    self.pointers_put.setdefault(site, {})[operands[1]] = True
                else:
                    self.integers_put[site] = True
        elif op == "kill":
            for site in self.knowledge.sites_of(operands[0]):
                self.killed[site] = True
        elif op == "call" and builtin(data[0]) is None:
            if "frees" in callee_effects(module, effects, instruction):
                self.calls_free = True

    def note_load(self, kind, pointer):
        """Note what a load reads."""
        base, offset = self.base_of(pointer)
        for site in self.knowledge.sites_of(pointer):
            self.readers.setdefault(site, {})[base] = True
            for k in range(size(kind)):
                self.bytes_read[(site, base, offset + k)] = True

    def base_of(self, pointer):
        """Return the name of the alloca that geps without indices lead to from a pointer, and the offset."""
        passed = []
        offset = 0
        found = _NOWHERE
        seen = {}
        while pointer[0] == "name" and pointer[1] not in seen:
            if pointer[1] in self.known_bases:
                found = self.known_bases[pointer[1]]
                break
            maker = self.knowledge.results.get(pointer[1])
            if maker is None or maker[1] != "gep" or len(maker[3]) > 1:
                break
            # In blocks that no path reaches, geps may lead to each other.
            seen[pointer[1]] = True
            passed.append((pointer[1], offset))
            offset += maker[4][0]
            pointer = maker[3][0]
        if found == _NOWHERE:
            return found
        total = found[1] + offset
        for name, ahead in passed:
            self.known_bases[name] = (found[0], total - ahead)
        return (found[0], total)

    def facts_at(self, label, k):
        """Return the facts at a place."""
        return self.carrier.facts_at(self.starts.get(label, ()), self.blocks[label], k)

    def is_inside(self, kind, pointer):
        """Tell whether an access is inside an alloca that lives as long as the call."""
        name, offset = self.base_of(pointer)
        if name == -1 or offset < 0 or offset + size(kind) > self.allocas[name]:
            return False
        if ("at", name) in self.killed:
            return False
        return name not in self.knowledge.escaped or OUTSIDE not in self.killed and not self.calls_free

    def has_fact(self, facts, kind, pointer):
        """Tell whether facts contain one with this pointer and kind."""
        return any([other == kind for other, _ in facts.known_of(pointer)])

    def keeps_kind(self, kind, pointer):
        """Tell whether what a load inside an alloca finds there surely has its kind."""
        site = ("at", self.base_of(pointer)[0])
        put = self.pointers_put.get(site, ())
        if kind != "ptr":
            return len(put) == 0
        return site not in self.integers_put and (len(put) == 0 or len(put) == 1 and pointer in put)

    def is_safe_load(self, facts, kind, pointer):
        """Tell whether a load would be safe where these facts hold."""
        if self.has_fact(facts, kind, pointer):
            return True
        if not self.is_inside(kind, pointer) or self.base_of(pointer)[0] in self.knowledge.escaped:
            return False
        return self.keeps_kind(kind, pointer)

    def is_safe_store(self, facts, kind, pointer):
        """Tell whether a store would be safe where these facts hold."""
        if self.is_inside(kind, pointer):
            return True
        if not self.has_fact(facts, kind, pointer):
            return False
        return not any([site == OUTSIDE or site in self.constants for site in self.knowledge.sites_of(pointer)])

    def is_safe(self, facts, op, kind, pointer):
        """Tell whether a load or store would be safe where these facts hold."""
        if op == "load":
            return self.is_safe_load(facts, kind, pointer)
        return self.is_safe_store(facts, kind, pointer)

    def is_own(self, pointer):
        """Tell whether a pointer has only sites that are own names and have not escaped."""
        escaped = self.knowledge.escaped
        return all([site[0] == "at" and site[1] not in escaped for site in self.knowledge.sites_of(pointer)])

    def is_unread(self, kind, pointer):
        """Tell whether a pointer leads only to allocas that do not escape, and no load reads what is stored there."""
        sites = self.knowledge.sites_of(pointer)
        if not self.is_own(pointer) or not all([site[1] in self.allocas for site in sites]):
            return False
        base, offset = self.base_of(pointer)
        for site in sites:
            for other in self.readers.get(site, ()):
                if other == -1 or other != base:
                    return False
            if any([(site, base, offset + k) in self.bytes_read for k in range(size(kind))]):
                return False
        return True
