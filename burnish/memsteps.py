"""Steps that add, remove and replace loads and stores.

They rest on facts: a value table, an effect table and a memory table that hold.
"""

from burnish.carrying import Facts
from burnish.edits import (
    block_in, change_names, instruction_at, put_instructions, used_names, with_blocks, with_body,
)
from burnish.memfacts import holds_memory
from burnish.records import find_function, put_block, put_function
from burnish.safety import Safety
from burnish.tables import rises
from burnish.valuesteps import fits_at
from burnish.words import size


def is_safe(module, function, facts, label, k, op, kind, pointer):
    """Tell whether a load or store would be safe at a place."""
    safety = Safety(module, function, facts)
    return safety.is_safe(safety.facts_at(label, k), op, kind, pointer)


def _holding(module, function, facts):
    """Tell whether the three tables hold."""
    return holds_memory(module, function, facts[0], facts[1], facts[2])


def _at_places(module, step, op, tell):
    """Return what is told of the instructions of an op at the places of a step, None if one cannot be told of.

    `tell` is a function of a Safety, the facts at the place and the
    instruction; it returns None to refuse. The places are the keys.
    """
    _, name, facts, places = step
    function = find_function(module, name)
    if function is None or not places or not rises(places) or not _holding(module, function, facts):
        return None
    wanted = {}
    for label, k in places:
        wanted.setdefault(label, []).append(k)
    safety = Safety(module, function, facts)
    found = {}
    for label, row in wanted.items():
        if label not in safety.blocks:
            return None
        block = safety.blocks[label]
        held = Facts(safety.carrier, safety.starts.get(label, ()))
        done = 0
        for k in row:
            instruction = instruction_at(block, k)
            if instruction is None or instruction[1] != op:
                return None
            for passed in block[2][done:k]:
                safety.carrier.carry(held, passed)
            done = k
            told = tell(safety, held, instruction)
            if told is None:
                return None
            found[(label, k)] = told
    return found


def places_told(module, function, facts, op, tell):
    """Return the list of the places of the instructions of an op of which something is told, block by block."""
    safety = Safety(module, function, facts)
    found = []
    for label, _, body, _ in function[3]:
        held = Facts(safety.carrier, safety.starts.get(label, ()))
        for k, instruction in enumerate(body):
            if instruction[1] == op and tell(safety, held, instruction) is not None:
                found.append((label, k))
            safety.carrier.carry(held, instruction)
    return found


def without_places(function, places):
    """Return the function without the instructions at the places that are keys of a dict."""
    changed = []
    for block in function[3]:
        body = [row for k, row in enumerate(block[2]) if (block[0], k) not in places]
        changed.append(with_body(block, body))
    return with_blocks(function, changed)


def _remove_at(module, name, places):
    """Return the module without the instructions at the places that are keys of a dict."""
    return put_function(module, without_places(find_function(module, name), places))


def _safe_load(safety, held, instruction):
    """Return the result of a load that is safe, else None."""
    return instruction[0] if safety.is_safe_load(held, instruction[2], instruction[3][0]) else None


def delete_load(module, step):
    """Remove loads that cannot trap and whose results nothing uses."""
    results = _at_places(module, step, "load", _safe_load)
    if results is None:
        return None
    used = used_names(find_function(module, step[1]))
    if any([result in used for result in results.values()]):
        return None
    return _remove_at(module, step[1], results)


def insert_load(module, step):
    """Add a load that cannot trap."""
    _, name, facts, label, k, instruction = step
    function, block = block_in(module, name, label)
    if instruction[1] != "load" or not fits_at(module, function, block, k, instruction):
        return None
    if not _holding(module, function, facts):
        return None
    if not is_safe(module, function, facts, label, k, "load", instruction[2], instruction[3][0]):
        return None
    body = block[2][:k] + (instruction,) + block[2][k:]
    return put_function(module, put_block(function, with_body(block, body)))


def known_result(safety, held, instruction):
    """Return the pair of the result of a load and what is known of it, None if nothing is."""
    name, _, kind, operands, _, _ = instruction
    known = [worth for other, worth in held.known_of(operands[0]) if other == kind]
    return (name, min(known)) if known else None


def _followed(changes):
    """Return the changes of names with each one led to its last operand, None if they lead round."""
    found = {}
    for name in changes:
        passed = {}
        operand = ("name", name)
        while operand[0] == "name" and operand[1] in changes:
            if operand[1] in passed:
                return None
            passed[operand[1]] = True
            operand = found.get(operand[1], changes[operand[1]])
        for other in passed:
            found[other] = operand
    return found


def forward(module, step):
    """Replace loads by what they are known to give."""
    told = _at_places(module, step, "load", known_result)
    if told is None:
        return None
    changes = _followed({name: operand for name, operand in told.values()})
    if changes is None:
        return None
    left = without_places(find_function(module, step[1]), told)
    return put_function(module, change_names(left, changes))


def needless_store(safety, held, instruction):
    """Return True for a store that cannot trap and changes nothing, else None."""
    _, _, kind, (worth, pointer), _, _ = instruction
    if kind == "i1" or (kind, worth) not in held.known_of(pointer):
        return None
    return True if safety.is_safe_store(held, kind, pointer) else None


def same_store(module, step):
    """Remove stores of what stands there."""
    told = _at_places(module, step, "store", needless_store)
    return None if told is None else _remove_at(module, step[1], told)


def is_passed(safety, instruction, store):
    """Tell whether an instruction between two stores does not ask for what the first one stored."""
    _, op, kind, operands, _, _ = instruction
    pointer = store[3][1]
    if op == "load":
        return safety.knowledge.apart(operands[0], size(kind), pointer, size(store[2]))
    return op != "kill" and (op != "call" or safety.is_own(pointer))


def dead_store(module, step):
    """Remove a store ahead of another one to the same place."""
    _, name, facts, label, k, j = step
    function, block = block_in(module, name, label)
    first, second = instruction_at(block, k), instruction_at(block, j)
    if first is None or second is None or k >= j or first[1] != "store" or second[1] != "store":
        return None
    pointer = first[3][1]
    if first[2] != second[2] or pointer != second[3][1] or not _holding(module, function, facts):
        return None
    safety = Safety(module, function, facts)
    if not safety.is_safe_store(safety.facts_at(label, k), first[2], pointer):
        return None
    if not all([is_passed(safety, between, first) for between in block[2][k + 1:j]]):
        return None
    return put_instructions(module, function, block, k, ())


def unread_by_loads(safety, held, instruction):
    """Return True for a store that cannot trap and that no load reads, else None."""
    _, _, kind, (_, pointer), _, _ = instruction
    if not safety.is_safe_store(held, kind, pointer):
        return None
    return True if safety.is_unread(kind, pointer) else None


def unread_store(module, step):
    """Remove stores that no load reads."""
    told = _at_places(module, step, "store", unread_by_loads)
    return None if told is None else _remove_at(module, step[1], told)
