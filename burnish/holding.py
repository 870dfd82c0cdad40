"""Value tables that hold: one look at each instruction and each edge."""

from burnish.lattice import full, is_single, refine, transfer, within
from burnish.records import edges, is_division, result_kind
from burnish.scopes import kinds_of
from burnish.tables import is_range, is_sites, is_value_table
from burnish.values import OUTSIDE, Knowledge, is_maker, live_labels, own_names
from burnish.words import opposite, width

_PURE = (
    "add", "sub", "mul", "and", "or", "xor", "shl", "lshr", "ashr", "icmp", "select", "trunc", "zext", "sext",
)


def _are_edges(function, row):
    """Tell whether edges exist in the function."""
    counts = {block[0]: len(edges(block[3])) for block in function[3]}
    return all([label in counts and 0 <= slot < counts[label] for label, slot in row])


def _is_fact(known, own, kind, fact):
    """Tell whether a range or sites are a fact of a name of this kind."""
    if kind != "ptr":
        return is_range(fact) and all([item < 1 << width(kind) for item in fact])
    if not is_sites(fact):
        return False
    for site in fact:
        if site != OUTSIDE and site[1] not in (own if site[0] == "at" else known):
            return False
    return True


def has_value_form(module, function, table):
    """Tell whether a plain value has the form of a value table of the function."""
    if not is_value_table(table):
        return False
    dead, escaped, facts = table
    own = own_names(function)
    if not _are_edges(function, dead) or not all([name in own for name in escaped]):
        return False
    kinds = kinds_of(function)
    known = {record[0]: True for record in module[0]}
    return all([name in kinds and _is_fact(known, own, kinds[name], fact) for name, fact in facts])


def has_transfer(instruction):
    """Tell whether `transfer` tells the range of the result."""
    op = instruction[1]
    return (op in _PURE or is_division(op)) and result_kind(instruction) != "ptr"


def result_range(knowledge, instruction):
    """Return the range of an integer result, None if there is no result."""
    _, op, kind, operands, data, _ = instruction
    if not has_transfer(instruction):
        return full(kind)
    kinds = [knowledge.kind_of(operand) for operand in operands]
    ranges = [knowledge.range_of(operand) for operand in operands]
    return transfer(op, kind, data, kinds, ranges)


def result_sites(knowledge, instruction):
    """Return the list of the sites of a pointer result."""
    name, op, _, operands, _, _ = instruction
    if is_maker(instruction):
        return [("at", name)]
    if op == "gep":
        return list(knowledge.sites_of(operands[0]))
    if op == "select":
        return list(knowledge.sites_of(operands[1]) + knowledge.sites_of(operands[2]))
    return [OUTSIDE]


def taken_slot(knowledge, end):
    """Return the only slot that an end can take by the fact of its condition or value, or -1."""
    if end[0] not in ("condbr", "switch"):
        return -1
    bounds = knowledge.range_of(end[1])
    if not is_single(bounds):
        return -1
    if end[0] == "condbr":
        return 0 if bounds[0] == 1 else 1
    values = [value for value, _ in end[2]]
    return values.index(bounds[0]) if bounds[0] in values else len(values)


def refined(knowledge, end, slot):
    """Return a dict from names to their ranges along an edge, None if one has no value there."""
    if end[0] != "condbr" or end[1][0] != "name":
        return {}
    instruction = knowledge.results.get(end[1][1])
    if instruction is None or instruction[1] != "icmp" or instruction[2] == "ptr":
        return {}
    _, _, kind, (x, y), data, _ = instruction
    predicate = data[0] if slot == 0 else opposite(data[0])
    told = refine(predicate, kind, knowledge.range_of(x), knowledge.range_of(y))
    if told is None:
        return None
    # Where x and y are one name, it has the range of x.
    return {operand[1]: bounds for operand, bounds in ((y, told[1]), (x, told[0])) if operand[0] == "name"}


def has_no_result(knowledge, block):
    """Tell whether an instruction of the block always traps by the facts."""
    for instruction in block[2]:
        if has_transfer(instruction) and result_range(knowledge, instruction) is None:
            return True
    return False


def open_edges(knowledge, block):
    """Return the list of (slot, edge, ranges) of the edges of a block that are not shut.

    The ranges are those of `refined`.
    """
    if has_no_result(knowledge, block):
        return []
    return edges_taken(knowledge, block[3])


def edges_taken(knowledge, end):
    """Return what `open_edges` does, for an end that a run may come to."""
    taken = taken_slot(knowledge, end)
    found = []
    for slot, edge in enumerate(edges(end)):
        ranges = refined(knowledge, end, slot)
        if taken in (-1, slot) and ranges is not None:
            found.append((slot, edge, ranges))
    return found


def range_along(knowledge, ranges, operand):
    """Return the range of an integer argument along an edge with these ranges."""
    if operand[0] == "name" and operand[1] in ranges:
        return ranges[operand[1]]
    return knowledge.range_of(operand)


def escaping_operands(block):
    """Return the list of the operands that a block stores, passes on or returns."""
    found = []
    for _, op, _, operands, data, _ in block[2]:
        if op == "store":
            found.append(operands[0])
        elif op == "call" and data != ("free",):
            found.extend(operands)
    if block[3][0] == "ret" and block[3][1] is not None:
        found.append(block[3][1])
    return found


def _lets_escape(knowledge, block):
    """Tell whether all own names that a block lets escape are in escaped."""
    for operand in escaping_operands(block):
        for site in knowledge.sites_of(operand):
            if site[0] == "at" and site[1] not in knowledge.escaped:
                return False
    return True


def _takes_sites(knowledge, name, sites):
    """Tell whether each of the sites is in the fact of a pointer name, or covered there."""
    fact = {site: True for site in knowledge.sites_of(("name", name))}
    is_wide = OUTSIDE in fact
    return all([site in fact or is_wide and knowledge.is_exposed(site) for site in sites])


def _takes_range(knowledge, name, bounds):
    """Tell whether a range is within the fact of an integer name."""
    return within(bounds, knowledge.range_of(("name", name)))


def _holds_result(knowledge, instruction):
    """Tell whether the result of an instruction is within its fact."""
    kind = result_kind(instruction)
    if kind == "void":
        return True
    if kind == "ptr":
        return _takes_sites(knowledge, instruction[0], result_sites(knowledge, instruction))
    bounds = result_range(knowledge, instruction)
    return bounds is None or _takes_range(knowledge, instruction[0], bounds)


def _holds_edge(knowledge, edge, params, ranges):
    """Tell whether the arguments of an edge are within the facts of the params."""
    for (param, kind), operand in zip(params, edge[1]):
        if kind == "ptr":
            if not _takes_sites(knowledge, param, knowledge.sites_of(operand)):
                return False
        elif not _takes_range(knowledge, param, range_along(knowledge, ranges, operand)):
            return False
    return True


def _holds_edges(knowledge, block, params):
    """Tell whether the edges of a block that are not shut are not dead, and bring what holds."""
    for slot, edge, ranges in open_edges(knowledge, block):
        if (block[0], slot) in knowledge.dead:
            return False
        if not _holds_edge(knowledge, edge, params[edge[0]], ranges):
            return False
    return True


def _holds_entry(knowledge, entry):
    """Tell whether the params of the entry have the facts that say nothing."""
    for param, kind in entry[1]:
        if kind == "ptr":
            if not _takes_sites(knowledge, param, [OUTSIDE]):
                return False
        elif not _takes_range(knowledge, param, full(kind)):
            return False
    return True


def holds_values(module, function, table):
    """Tell whether a plain value is a value table of the function that holds."""
    if not has_value_form(module, function, table):
        return False
    knowledge = Knowledge(function, table)
    if not _holds_entry(knowledge, function[3][0]):
        return False
    live = {label: True for label in live_labels(function, table[0])}
    params = {block[0]: block[1] for block in function[3]}
    for block in function[3]:
        if block[0] not in live:
            continue
        if not all([_holds_result(knowledge, instruction) for instruction in block[2]]):
            return False
        if not _lets_escape(knowledge, block) or not _holds_edges(knowledge, block, params):
            return False
    return True
