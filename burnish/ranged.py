"""Rules that ask for ranges.

Each rule is a function of what a value table says (Knowledge of burnish/values.py)
and an instruction; it returns the result of the rule, or None if the rule does
not match.
"""

from burnish.lattice import decide, half_of, is_single, top_of
from burnish.patterns import body_result, constant_result, operand_result

_UNSIGNED = {
    "slt": "ult", "sle": "ule", "sgt": "ugt", "sge": "uge",
    "sdiv": "udiv", "srem": "urem", "ashr": "lshr", "sext": "zext",
}


def _same_as(instruction, op):
    """Return the result that has another op."""
    name, _, kind, operands, data, place = instruction
    return ("body", ((name, op, kind, operands, data, place),))


def _zeros(knowledge, operand):
    """Return the bits of an operand that are known to be 0."""
    return knowledge.range_of(operand)[2]


def _ones(knowledge, operand):
    """Return the bits of an operand that are known to be 1."""
    return knowledge.range_of(operand)[3]


def _is_below(knowledge, instruction):
    """Tell whether the first operand is less than the second one, a constant."""
    first, second = instruction[3]
    return second[0] == "int" and knowledge.range_of(first)[1] < second[2]


def _small_remainder(knowledge, instruction):
    """101: the remainder of what is less than the divisor."""
    return operand_result(instruction[3][0]) if _is_below(knowledge, instruction) else None


def _nothing_masked(knowledge, instruction):
    """102: an and that clears nothing."""
    first, second = instruction[3]
    if second[0] != "int":
        return None
    cleared = top_of(instruction[2]) - second[2]
    return operand_result(first) if _zeros(knowledge, first) & cleared == cleared else None


def _nothing_set(knowledge, instruction):
    """103: an or that sets nothing."""
    first, second = instruction[3]
    if second[0] != "int" or _ones(knowledge, first) & second[2] != second[2]:
        return None
    return operand_result(first)


def _sign_unset(knowledge, operand):
    """Tell whether the top bit of an operand is known to be 0."""
    return _zeros(knowledge, operand) & half_of(knowledge.kind_of(operand)) != 0


def _sign_set(knowledge, operand):
    """Tell whether the top bit of an operand is known to be 1."""
    return _ones(knowledge, operand) & half_of(knowledge.kind_of(operand)) != 0


def _first_positive(knowledge, instruction):
    """104 and 105: a sext or ashr of what is not negative."""
    if not _sign_unset(knowledge, instruction[3][0]):
        return None
    return _same_as(instruction, _UNSIGNED[instruction[1]])


def _both_positive(knowledge, instruction):
    """106: a signed division of what is not negative."""
    if not all([_sign_unset(knowledge, operand) for operand in instruction[3]]):
        return None
    return _same_as(instruction, _UNSIGNED[instruction[1]])


def _same_signs(knowledge, instruction):
    """107: a signed comparison of what has one sign."""
    name, _, kind, operands, data, _ = instruction
    if data[0] not in _UNSIGNED:
        return None
    positive = all([_sign_unset(knowledge, operand) for operand in operands])
    if not positive and not all([_sign_set(knowledge, operand) for operand in operands]):
        return None
    return body_result(name, "icmp", kind, operands, (_UNSIGNED[data[0]],))


def _no_common_bit(knowledge, instruction):
    """108: an add or xor of what has no bit in common."""
    first, second = instruction[3]
    if _zeros(knowledge, first) | _zeros(knowledge, second) != top_of(instruction[2]):
        return None
    return _same_as(instruction, "or")


def _decided(knowledge, instruction):
    """109: a comparison that the ranges decide."""
    _, _, kind, (first, second), data, _ = instruction
    if kind == "ptr":
        return None
    told = decide(data[0], kind, knowledge.range_of(first), knowledge.range_of(second))
    return None if told is None else constant_result("i1", told)


def _small_quotient(knowledge, instruction):
    """110: the quotient of what is less than the divisor."""
    return constant_result(instruction[2], 0) if _is_below(knowledge, instruction) else None


def _told_choice(knowledge, instruction):
    """111: a select whose condition is told."""
    condition, first, second = instruction[3]
    bounds = knowledge.range_of(condition)
    if not is_single(bounds):
        return None
    return operand_result(first if bounds[0] == 1 else second)


def _nothing_lost(knowledge, instruction):
    """112: a zext back to the kind from which a trunc took nothing."""
    operand = instruction[3][0]
    maker = knowledge.results.get(operand[1]) if operand[0] == "name" else None
    if maker is None or maker[1] != "trunc" or knowledge.kind_of(maker[3][0]) != instruction[2]:
        return None
    x = maker[3][0]
    return operand_result(x) if knowledge.range_of(x)[1] <= top_of(maker[2]) else None


RANGED = {
    "urem": ((101, _small_remainder),),
    "and": ((102, _nothing_masked),),
    "or": ((103, _nothing_set),),
    "sext": ((104, _first_positive),),
    "ashr": ((105, _first_positive),),
    "sdiv": ((106, _both_positive),),
    "srem": ((106, _both_positive),),
    "icmp": ((107, _same_signs), (109, _decided)),
    "add": ((108, _no_common_bit),),
    "xor": ((108, _no_common_bit),),
    "udiv": ((110, _small_quotient),),
    "select": ((111, _told_choice),),
    "zext": ((112, _nothing_lost),),
}
