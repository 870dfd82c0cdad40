"""Memory tables: what loads at the beginning of a block would give."""

from heapq import heappop, heappush

from burnish.carrying import Carrier, Facts
from burnish.edits import Scope
from burnish.effects import holds_effects
from burnish.forms import is_memory_table
from burnish.graph import graph_of, reverse_postorder
from burnish.holding import holds_values
from burnish.records import edges
from burnish.values import Knowledge, live_labels


def through(module, function, values, effects, facts, instruction):
    """Return the ascending list of the facts behind an instruction."""
    carrier = Carrier(module, function, values, effects)
    held = Facts(carrier, facts)
    carrier.carry(held, instruction)
    return sorted(held.listed())


def _has_kinds(knowledge, fact):
    """Tell whether the operands of a fact exist, the one a pointer, the other of its kind."""
    return knowledge.kind_of(fact[0]) == "ptr" and knowledge.kind_of(fact[2]) == fact[1]


def _may_have(scope, label, fact):
    """Tell whether a label may have a fact: its names are params or defined above."""
    return all([operand_may_stand(scope, label, operand) for operand in (fact[0], fact[2])])


def operand_may_stand(scope, label, operand):
    """Tell whether an operand may stand in a fact of a label."""
    return scope.outer(operand, label) or scope.places.get(operand[1]) == (label, -1)


def has_memory_form(function, values, table):
    """Tell whether a plain value has the form of a memory table of the function."""
    if not is_memory_table(table):
        return False
    live = {label: True for label in live_labels(function, values[0])}
    scope = Scope(function)
    knowledge = Knowledge(function, values)
    for label, facts in table:
        if label not in live:
            return False
        if not all([_has_kinds(knowledge, fact) and _may_have(scope, label, fact) for fact in facts]):
            return False
    return True


def _before(fact, changes):
    """Return what a fact of a target says at the end of a source: with arguments for its params."""
    pointer, kind, worth = fact
    return (changes.get(pointer, pointer), kind, changes.get(worth, worth))


def _changes(block, operands):
    """Return a dict from the params of a block, as operands, to the arguments of an edge."""
    return {("name", param): operand for (param, _), operand in zip(block[1], operands)}


def holds_memory(module, function, values, effects, table):
    """Tell whether a plain value is a memory table that holds, and the two others hold."""
    if not holds_values(module, function, values) or not holds_effects(module, effects):
        return False
    return has_memory_form(function, values, table) and holds_facts(module, function, values, effects, table)


def holds_facts(module, function, values, effects, table):
    """Tell whether a table of the form of a memory table holds; the two others do."""
    told = {label: facts for label, facts in table}
    if function[3][0][0] in told:
        return False
    blocks = {block[0]: block for block in function[3]}
    dead = {edge: True for edge in values[0]}
    carrier = Carrier(module, function, values, effects)
    for label in live_labels(function, values[0]):
        facts = None
        for slot, (target, operands) in enumerate(edges(blocks[label][3])):
            if (label, slot) in dead or target not in told:
                continue
            if facts is None:
                facts = carrier.facts_at(told.get(label, ()), blocks[label], len(blocks[label][2]))
            changes = _changes(blocks[target], operands)
            for fact in told[target]:
                pointer, kind, worth = _before(fact, changes)
                if (kind, worth) not in facts.known_of(pointer):
                    return False
    return True


class Finder:
    """The search for the largest table: all facts that an edge brings stay until another one lacks them."""

    def __init__(self, module, function, values, effects):
        self.carrier = Carrier(module, function, values, effects)
        self.blocks = {block[0]: block for block in function[3]}
        self.scope = Scope(function)
        self.dead = {edge: True for edge in values[0]}
        live = {label: True for label in live_labels(function, values[0])}
        graph = [(label, targets if label in live else ()) for label, targets in graph_of(function)]
        self.order = [label for label in reverse_postorder(tuple(graph)) if label in live]
        self.numbers = {label: number for number, label in enumerate(self.order)}
        self.starts = {function[3][0][0]: {}}

    def forms(self, label, changes, operand):
        """Return what stands at a label for an operand at the end of a source."""
        found = [param for param, argument in changes.items() if argument == operand]
        if self.scope.outer(operand, label):
            found.append(operand)
        return found

    def brought(self, label, changes, facts):
        """Return a dict with the facts that an edge brings to a label."""
        found = {}
        for pointer, pairs in facts.pairs.items():
            pointers = self.forms(label, changes, pointer)
            if not pointers:
                continue
            for kind, worth in pairs:
                for other in self.forms(label, changes, worth):
                    for form in pointers:
                        found[(form, kind, other)] = True
        return found

    def kept(self, rows, changes, facts):
        """Return a dict with those of the facts of a label that an edge brings."""
        found = {}
        for fact in rows:
            pointer, kind, worth = _before(fact, changes)
            if (kind, worth) in facts.known_of(pointer):
                found[fact] = True
        return found

    def pass_on(self, label):
        """Carry the facts of a label to its targets; return those whose facts are others now."""
        block = self.blocks[label]
        facts = self.carrier.facts_at(self.starts[label], block, len(block[2]))
        changed = []
        for slot, (target, operands) in enumerate(edges(block[3])):
            if (label, slot) in self.dead:
                continue
            changes = _changes(self.blocks[target], operands)
            before = self.starts.get(target)
            if before is None:
                self.starts[target] = self.brought(target, changes, facts)
            else:
                self.starts[target] = self.kept(before, changes, facts)
            if before is None or len(self.starts[target]) < len(before):
                changed.append(target)
        return changed

    def find(self):
        """Pass facts on until nothing changes."""
        waiting = [0]
        is_waiting = [False] * len(self.order)
        while waiting:
            number = heappop(waiting)
            is_waiting[number] = False
            for target in self.pass_on(self.order[number]):
                if not is_waiting[self.numbers[target]]:
                    is_waiting[self.numbers[target]] = True
                    heappush(waiting, self.numbers[target])


def solve_memory(module, function, values, effects):
    """Return the largest memory table of a function that holds."""
    finder = Finder(module, function, values, effects)
    finder.find()
    rows = [(label, tuple(sorted(facts))) for label, facts in finder.starts.items() if facts]
    return tuple(sorted(rows))
