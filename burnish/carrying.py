"""Carrying: how the instructions of a function change memory facts.

A fact is (pointer, kind, value): a load of this kind at this pointer does not
trap and gives this value.
"""

from burnish.effects import callee_effects
from burnish.values import OUTSIDE, Knowledge
from burnish.words import size

_KINDS = ("i1", "i8", "i16", "i32", "i64", "ptr")

# These built-in callees change no memory that is there, and malloc makes new memory alone.
_HARMLESS = ("get", "put", "exit", "malloc")

# Stands beside the sites of a pointer that may lead to what ("outside",) is or covers.
_EXPOSED = ("exposed",)

# No access has more bytes.
_MOST = 8


def zero_of(kind):
    """Return the operand that bytes 0 are read as."""
    return ("null",) if kind == "ptr" else ("int", kind, 0)


class Facts:
    """The facts at a place, kept by their pointers: a dict of pairs (kind, value) for each.

    The spot of a pointer is (operand, offset): what geps without indices lead
    to from it. Facts are found by their spots, too, so that a store needs not
    look at those that lie beside it.
    """

    def __init__(self, carrier, rows):
        self.carrier = carrier
        self.pairs = {}
        self.groups = {}
        self.near = {}
        for pointer, kind, worth in rows:
            self.put(pointer, kind, worth)

    def put(self, pointer, kind, worth):
        """Add a fact."""
        if pointer not in self.pairs:
            spot = self.carrier.spot_of(pointer)
            self.pairs[pointer] = {}
            self.groups.setdefault(spot[0], {})[pointer] = True
            self.near.setdefault(spot, {})[pointer] = True
        self.pairs[pointer][(kind, worth)] = True

    def forget(self, pointer):
        """Remove the facts of a pointer."""
        spot = self.carrier.spot_of(pointer)
        del self.pairs[pointer]
        del self.near[spot][pointer]
        del self.groups[spot[0]][pointer]
        if not self.groups[spot[0]]:
            del self.groups[spot[0]]

    def known_of(self, pointer):
        """Return the pairs (kind, value) that are known of a pointer."""
        return self.pairs.get(pointer, ())

    def listed(self):
        """Return the list of the facts."""
        return [(pointer, kind, worth) for pointer, pairs in self.pairs.items() for kind, worth in pairs]

    def bases_with(self, marks):
        """Return the list of what geps lead to from pointers of facts that may have one of the marks."""
        holders = self.carrier.holders
        if sum([len(holders.get(mark, ())) for mark in marks]) > len(self.groups):
            return list(self.groups)
        found = {}
        for mark in marks:
            for base in holders.get(mark, ()):
                if base in self.groups:
                    found[base] = True
        return list(found)

    def marked(self, pointers, marks):
        """Return the list of those of the pointers that have one of the marks."""
        return [pointer for pointer in pointers if self.carrier.has_mark(pointer, marks)]

    def forget_marked(self, marks):
        """Remove the facts whose pointers have one of the marks."""
        found = []
        for base in self.bases_with(marks):
            found.extend(self.marked(self.groups[base], marks))
        for pointer in found:
            self.forget(pointer)

    def met_by(self, pointer, marks):
        """Return the list of the pointers of facts that have one of the marks and may not be apart from a pointer."""
        base, offset = self.carrier.spot_of(pointer)
        found = []
        for other in self.bases_with(marks):
            if other != base:
                found.extend(self.marked(self.groups[other], marks))
        # Of pointers that lead to the same operand, those are apart that lie farther away.
        for k in range(offset - _MOST, offset + _MOST + 1):
            found.extend(self.marked(self.near.get((base, k), ()), marks))
        return found

    def keep_apart(self, pointer, other, kind):
        """Keep those of the facts of a pointer that are apart from an access of a kind at another one."""
        knowledge = self.carrier.knowledge
        kept = []
        for pair in self.pairs[pointer]:
            if knowledge.apart(pointer, size(pair[0]), other, size(kind)):
                kept.append(pair)
        if len(kept) < len(self.pairs[pointer]):
            self.forget(pointer)
            for its, worth in kept:
                self.put(pointer, its, worth)


class Carrier:
    """Carries facts through the instructions of a function.

    The marks of a pointer are its sites, and one that tells whether what
    ("outside",) is or covers is among them.
    """

    def __init__(self, module, function, values, effects):
        self.whole = module
        self.effects = effects
        self.knowledge = Knowledge(function, values)
        self.spots = {}
        self.marks = {}
        # From each mark to what geps lead to from the pointers that have it.
        self.holders = {}
        for name, kind in self.knowledge.kinds.items():
            if kind == "ptr":
                self.hold(("name", name))
        for record in module[0]:
            self.hold(("global", record[0]))

    def hold(self, pointer):
        """Note the marks of a pointer."""
        for mark in self.marks_of(pointer):
            self.holders.setdefault(mark, {})[self.spot_of(pointer)[0]] = True

    def marks_of(self, pointer):
        """Return a dict with the marks of a pointer."""
        if pointer not in self.marks:
            found = {}
            for site in self.knowledge.sites_of(pointer):
                found[site] = True
                if self.knowledge.is_exposed(site):
                    found[_EXPOSED] = True
            self.marks[pointer] = found
        return self.marks[pointer]

    def has_mark(self, pointer, marks):
        """Tell whether a pointer has one of the marks."""
        return any([mark in marks for mark in self.marks_of(pointer)])

    def spot_of(self, pointer):
        """Return the spot of a pointer."""
        if pointer not in self.spots:
            self.spots[pointer] = self.knowledge.bases(pointer)[-1]
        return self.spots[pointer]

    def meeting(self, pointer):
        """Return a dict with the marks of which a pointer has one if it may meet this one."""
        found = {}
        for site in self.knowledge.sites_of(pointer):
            found[site] = True
            if site == OUTSIDE:
                found[_EXPOSED] = True
            elif self.knowledge.is_exposed(site):
                found[OUTSIDE] = True
        return found

    def store(self, facts, instruction):
        """Carry facts through a store."""
        _, _, kind, (worth, pointer), _, _ = instruction
        met = facts.met_by(pointer, self.meeting(pointer))
        for other in met:
            facts.keep_apart(other, pointer, kind)
        facts.put(pointer, kind, worth)

    def call(self, facts, instruction):
        """Carry facts through a call."""
        callee = instruction[4][0]
        if callee == "free":
            facts.forget_marked(self.meeting(instruction[3][0]))
        elif callee not in _HARMLESS:
            told = callee_effects(self.whole, self.effects, instruction)
            if "frees" in told or "writes" in told:
                facts.forget_marked({_EXPOSED: True})

    def carry(self, facts, instruction):
        """Change the facts at an instruction to those behind it."""
        name, op, kind, operands, data, _ = instruction
        if op == "store":
            self.store(facts, instruction)
        elif op == "load":
            facts.put(operands[0], kind, ("name", name))
        elif op == "alloca":
            for other in _KINDS:
                if size(other) <= data[0]:
                    facts.put(("name", name), other, zero_of(other))
        elif op == "kill":
            facts.forget_marked(self.meeting(operands[0]))
        elif op == "call":
            self.call(facts, instruction)

    def facts_at(self, rows, block, k):
        """Return the facts at (block, k), from those at its beginning."""
        facts = Facts(self, rows)
        for instruction in block[2][:k]:
            self.carry(facts, instruction)
        return facts
