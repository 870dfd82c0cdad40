"""Rules for comparisons and for select.

Each rule is a function of a book (burnish/patterns.py) and an instruction; it
returns the result of the rule, or None if the rule does not match.
"""

from burnish.lattice import half_of, top_of
from burnish.patterns import body_result, constant_result, made_by, operand_result
from burnish.words import opposite, swapped, width, wrap

_TRUE_OF_EQUALS = ("eq", "ule", "uge", "sle", "sge")


def _against_constant(instruction):
    """Return (predicate, kind, x, c) of an icmp of integers with a constant behind, else None."""
    _, _, kind, (x, second), data, _ = instruction
    return (data[0], kind, x, second[2]) if second[0] == "int" else None


def _compared(name, predicate, kind, x, number):
    """Return the result that compares an operand with a number."""
    return body_result(name, "icmp", kind, (x, ("int", kind, number)), (predicate,))


def _same_operands(book, instruction):
    """41: compare an operand with itself."""
    a, b = instruction[3]
    if a != b:
        return None
    return constant_result("i1", 1 if instruction[4][0] in _TRUE_OF_EQUALS else 0)


def _constant_ahead(book, instruction):
    """42: put a constant behind."""
    name, _, kind, (a, b), data, _ = instruction
    if a[0] != "int" or b[0] == "int":
        return None
    return body_result(name, "icmp", kind, (b, a), (swapped(data[0]),))


def _bound_of(predicate, kind):
    """Return the constant than which nothing is less or greater, in the order of the predicate."""
    half = half_of(kind)
    if predicate in ("ult", "uge"):
        return 0
    if predicate in ("ugt", "ule"):
        return top_of(kind)
    return half if predicate in ("slt", "sge") else half - 1


def _never(book, instruction):
    """43: compare with a bound that nothing is beyond."""
    told = _against_constant(instruction)
    if told is None or told[0] not in ("ult", "ugt", "slt", "sgt") or told[3] != _bound_of(told[0], told[1]):
        return None
    return constant_result("i1", 0)


def _always(book, instruction):
    """44: compare with a bound that everything keeps."""
    told = _against_constant(instruction)
    if told is None or told[0] not in ("uge", "ule", "sge", "sle") or told[3] != _bound_of(told[0], told[1]):
        return None
    return constant_result("i1", 1)


def _at_most(book, instruction):
    """45: take "less" for "less or equal"."""
    told = _against_constant(instruction)
    if told is None or told[0] not in ("ule", "sle") or told[3] == _bound_of(told[0], told[1]):
        return None
    predicate, kind, x, c = told
    return _compared(instruction[0], "ult" if predicate == "ule" else "slt", kind, x, wrap(width(kind), c + 1))


def _at_least(book, instruction):
    """46: take "greater" for "greater or equal"."""
    told = _against_constant(instruction)
    if told is None or told[0] not in ("uge", "sge") or told[3] == _bound_of(told[0], told[1]):
        return None
    predicate, kind, x, c = told
    return _compared(instruction[0], "ugt" if predicate == "uge" else "sgt", kind, x, wrap(width(kind), c - 1))


def _next_to_least(book, instruction):
    """47: ask whether something is 0."""
    told = _against_constant(instruction)
    if told is None or (told[0], told[3]) not in (("ult", 1), ("ugt", 0)):
        return None
    return _compared(instruction[0], "eq" if told[0] == "ult" else "ne", told[1], told[2], 0)


def _next_to_greatest(book, instruction):
    """48: ask whether something is the greatest value."""
    told = _against_constant(instruction)
    if told is None:
        return None
    predicate, kind, x, c = told
    top = top_of(kind)
    if (predicate, c) not in (("ugt", top - 1), ("ult", top)):
        return None
    return _compared(instruction[0], "eq" if predicate == "ugt" else "ne", kind, x, top)


def _equality(instruction):
    """Return what `_against_constant` does, for eq and ne alone."""
    told = _against_constant(instruction)
    return told if told is not None and told[0] in ("eq", "ne") else None


def _of_sum(book, instruction):
    """49: compare ahead of an add or xor of a constant."""
    told = _equality(instruction)
    if told is None:
        return None
    predicate, kind, operand, d = told
    maker = made_by(book, operand, "add") or made_by(book, operand, "xor")
    if maker is None or maker[3][1][0] != "int":
        return None
    x, c = maker[3][0], maker[3][1][2]
    number = wrap(width(kind), d - c) if maker[1] == "add" else d ^ c
    return _compared(instruction[0], predicate, kind, x, number)


def _of_difference(book, instruction):
    """50: compare the operands of a sub or xor."""
    told = _equality(instruction)
    if told is None or told[3] != 0:
        return None
    maker = made_by(book, told[2], "sub") or made_by(book, told[2], "xor")
    if maker is None:
        return None
    return body_result(instruction[0], "icmp", told[1], maker[3], (told[0],))


def _itself(book, instruction):
    """51: a bit that is compared with 1 is itself."""
    told = _equality(instruction)
    if told is None or told[1] != "i1" or (told[0], told[3]) not in (("ne", 0), ("eq", 1)):
        return None
    return operand_result(told[2])


def _turned(book, instruction):
    """52: a bit that is compared with 0 is turned."""
    told = _equality(instruction)
    if told is None or told[1] != "i1" or (told[0], told[3]) not in (("eq", 0), ("ne", 1)):
        return None
    return body_result(instruction[0], "xor", "i1", (told[2], ("int", "i1", 1)), ())


def _widened(book, instruction):
    """Return (predicate, x, its kind, c) of a zext of x that is compared with a constant, else None."""
    told = _against_constant(instruction)
    if told is None or told[0] not in ("eq", "ne", "ult", "ugt"):
        return None
    maker = made_by(book, told[2], "zext")
    if maker is None:
        return None
    return (told[0], maker[3][0], book.kind_of(maker[3][0]), told[3])


def _ahead_of_zext(book, instruction):
    """53: compare ahead of a zext."""
    told = _widened(book, instruction)
    if told is None or told[3] > top_of(told[2]):
        return None
    predicate, x, kind, c = told
    return _compared(instruction[0], predicate, kind, x, c)


def _beyond_zext(book, instruction):
    """54: compare a zext with what it never reaches."""
    told = _widened(book, instruction)
    if told is None or told[3] <= top_of(told[2]):
        return None
    return constant_result("i1", 0 if told[0] in ("eq", "ugt") else 1)


COMPARISONS = (
    (41, _same_operands), (42, _constant_ahead), (43, _never), (44, _always), (45, _at_most), (46, _at_least),
    (47, _next_to_least), (48, _next_to_greatest), (49, _of_sum), (50, _of_difference), (51, _itself), (52, _turned),
    (53, _ahead_of_zext), (54, _beyond_zext),
)


def _only_choice(book, instruction):
    """55: a select that has no choice."""
    condition, first, second = instruction[3]
    if first == second or condition == ("int", "i1", 1):
        return operand_result(first)
    return operand_result(second) if condition[0] == "int" else None


def _chosen_bits(instruction):
    """Return the two bits that a select chooses from, None if they are no constants of kind i1."""
    _, first, second = instruction[3]
    if instruction[2] != "i1" or first[0] != "int" or second[0] != "int":
        return None
    return (first[2], second[2])


def _condition_itself(book, instruction):
    """56: choose 1 or 0."""
    return operand_result(instruction[3][0]) if _chosen_bits(instruction) == (1, 0) else None


def _condition_turned(book, instruction):
    """57: choose 0 or 1."""
    if _chosen_bits(instruction) != (0, 1):
        return None
    return body_result(instruction[0], "xor", "i1", (instruction[3][0], ("int", "i1", 1)), ())


def _by_turned(book, instruction):
    """58: choose by a bit that is turned."""
    name, _, kind, (condition, first, second), _, _ = instruction
    maker = made_by(book, condition, "xor")
    if maker is None or maker[3][1] != ("int", "i1", 1):
        return None
    return body_result(name, "select", kind, (maker[3][0], second, first), ())


def _chosen_equal(book, instruction, is_crossed):
    """Return the choice between two integers by whether they are equal, in this or the other order."""
    condition, first, second = instruction[3]
    maker = made_by(book, condition, "icmp")
    if maker is None or maker[2] == "ptr" or maker[4][0] not in ("eq", "ne"):
        return None
    if maker[3] != ((second, first) if is_crossed else (first, second)):
        return None
    return operand_result(second if maker[4][0] == "eq" else first)


def _equal_choice(book, instruction):
    """59: choose between x and y by whether x and y are equal."""
    return _chosen_equal(book, instruction, False)


def _crossed_choice(book, instruction):
    """60: choose between y and x by whether x and y are equal."""
    return _chosen_equal(book, instruction, True)


CHOICES = (
    (55, _only_choice), (56, _condition_itself), (57, _condition_turned), (58, _by_turned), (59, _equal_choice),
    (60, _crossed_choice),
)


def opposite_comparison(book, instruction):
    """66: turn the result of a comparison."""
    name, _, _, (first, second), _, _ = instruction
    maker = made_by(book, first, "icmp")
    if maker is None or second != ("int", "i1", 1):
        return None
    return body_result(name, "icmp", maker[2], maker[3], (opposite(maker[4][0]),))
