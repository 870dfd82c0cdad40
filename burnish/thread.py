"""Thread: edges that decide the end of the block that they lead to."""

from burnish.drafting import Draft
from burnish.edits import edge_at, is_pure, open_labels, renaming
from burnish.evaluate import integer_result
from burnish.plainloops import copy_block
from burnish.records import edges, find_block, map_instruction
from burnish.solve import solve_values

# A block with more instructions is not copied.
_MOST = 8


def _worked_out(made):
    """Return the operand that a pure instruction with integers for operands gives, None for another one."""
    _, op, kind, operands, data, _ = made
    if not is_pure(made) or not all([operand[0] == "int" for operand in operands]):
        return None
    if op == "select":
        return operands[1] if operands[0][2] == 1 else operands[2]
    numbers = [operand[2] for operand in operands]
    number = integer_result(op, kind, data, [operand[1] for operand in operands], numbers)
    return ("int", "i1" if op == "icmp" else kind, number)


def _decided_by(block, operands):
    """Return the number that the condition of a block is along an edge with these args, or None."""
    _, params, body, end = block
    if end[0] not in ("condbr", "switch"):
        return None
    known = {param: operand for (param, _), operand in zip(params, operands) if operand[0] == "int"}
    for made in body:
        found = _worked_out(map_instruction(made, renaming(known)))
        if found is not None:
            known[made[0]] = found
    change = renaming(known)
    condition = change(end[1])
    return condition[2] if condition[0] == "int" else None


def decided(function, label, slot):
    """Return the value of the condition of the block that an edge leads to, None if the edge does not decide it."""
    target, operands = edge_at(function, label, slot)
    return _decided_by(find_block(function, target), operands)


def _may_be_copied(function, opened, block):
    """Tell whether a block can be copied for an edge, and its end leads to different edges."""
    label, _, body, end = block
    if label == function[3][0][0] or label in opened or len(body) > _MOST or end[0] not in ("condbr", "switch"):
        return False
    row = edges(end)
    return any([edge != row[0] for edge in row])


def _thread_edge(draft, label, slot):
    """Lead an edge through a copy that goes on where the edge decides; return its label, -1 if a step is refused."""
    target, operands = edge_at(draft.subject(), label, slot)
    fresh = copy_block(draft, target, [(label, slot)])
    if fresh == -1:
        return -1
    for i in range(len(operands) - 1, -1, -1):
        if operands[i][0] == "int" and not draft.emit(("same_param", draft.name, fresh, i, operands[i])):
            return -1
    condition = find_block(draft.subject(), fresh)[3][1]
    if condition[0] == "name":
        table = solve_values(draft.whole, draft.subject())
        if not draft.emit(("ranges", draft.name, table, (condition[1],))):
            return -1
    return fresh if draft.emit(("fold_end", draft.name, fresh)) else -1


def _deciding_edges(function, copies):
    """Return the ascending list of the edges that decide; edges to copies are left out."""
    opened = open_labels(function)
    blocks = {block[0]: block for block in function[3]}
    targets = {}
    for label, block in blocks.items():
        if label not in copies and _may_be_copied(function, opened, block):
            targets[label] = True
    found = []
    for label, block in blocks.items():
        for slot, (target, operands) in enumerate(edges(block[3])):
            if target != label and target in targets and _decided_by(blocks[target], operands) is not None:
                found.append((label, slot))
    return sorted(found)


def _thread_once(draft, copies):
    """Thread the first edge that can be; tell whether there is one."""
    for label, slot in _deciding_edges(draft.subject(), copies):
        mark = draft.mark()
        fresh = _thread_edge(draft, label, slot)
        if fresh != -1:
            copies[fresh] = True
            return True
        draft.back_to(mark)
    return False


def thread(module, name, *, amount=16):
    """Return the certificate that leads edges past the ends that they decide."""
    draft = Draft(module, name)
    copies = {}
    for _ in range(amount):
        if not _thread_once(draft, copies):
            break
    return tuple(draft.emitted)
