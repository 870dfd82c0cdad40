"""Rules: what single instructions can be rewritten to."""

from burnish.comparisons import CHOICES, COMPARISONS, opposite_comparison
from burnish.conversions import GEP, SEXT, TRUNC, ZEXT, all_bits_kept
from burnish.patterns import row_result
from burnish.ranged import RANGED
from burnish.rows import ROWS
from burnish.scopes import kinds_of, operand_kind
from burnish.values import Knowledge

_XOR = ((66, opposite_comparison),)

_AND = ((67, all_bits_kept),)


class Book:
    """The definitions of a function, for rules to look at."""

    def __init__(self, function):
        self.kinds = kinds_of(function)
        self.makers = {}
        for _, _, body, _ in function[3]:
            for instruction in body:
                self.makers[instruction[0]] = instruction

    def maker_of(self, operand):
        """Return the instruction that defines a name, None for what no instruction defines."""
        return self.makers.get(operand[1]) if operand[0] == "name" else None

    def kind_of(self, operand):
        """Return the kind of an operand."""
        return operand_kind(self.kinds, operand)


def _other_rules(op):
    """Return the rules for an op that no rows tell, with their numbers."""
    if op == "icmp":
        return COMPARISONS
    if op == "select":
        return CHOICES
    if op == "trunc":
        return TRUNC
    if op in ("zext", "sext"):
        return ZEXT if op == "zext" else SEXT
    if op == "gep":
        return GEP
    if op in ("and", "xor"):
        return _AND if op == "and" else _XOR
    return ()


def first_rewrite(book, instruction, wanted):
    """Return (number, result) of the least rule that matches, None if there is none.

    Only the rule of the number wanted is looked at, if that is not 0.
    """
    for row in ROWS.get(instruction[1], ()):
        if wanted in (0, row[0]):
            result = row_result(book, instruction, row)
            if result is not None:
                return (row[0], result)
    for number, rule in _other_rules(instruction[1]):
        if wanted in (0, number):
            result = rule(book, instruction)
            if result is not None:
                return (number, result)
    return None


def first_ranged(knowledge, instruction, wanted):
    """Return what `first_rewrite` does, for the rules that ask for ranges."""
    for number, rule in RANGED.get(instruction[1], ()):
        if wanted in (0, number):
            result = rule(knowledge, instruction)
            if result is not None:
                return (number, result)
    return None


def has_ranged_rule(instruction):
    """Tell whether a rule that asks for ranges may match an instruction."""
    op, operands = instruction[1], instruction[3]
    if op in ("urem", "and", "or", "udiv"):
        return operands[1][0] == "int"
    return op in RANGED


def rewrite(function, instruction, number, names):
    """Return what the rule of a number makes of an instruction, None if it does not match."""
    if names != () or number < 1:
        return None
    told = first_rewrite(Book(function), instruction, number)
    return None if told is None else told[1]


def ranged(function, values, instruction, number, names):
    """Return what `rewrite` does, for the rules that ask for ranges."""
    if names != () or number < 1:
        return None
    told = first_ranged(Knowledge(function, values), instruction, number)
    return None if told is None else told[1]
