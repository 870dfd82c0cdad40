"""Patterns: whether an instruction is what a row of a rule says, and what becomes of it.

What is looked up is a book: an object with `maker_of(operand)`, the instruction
that defines a name or None, and `kind_of(operand)`. A result of a rule is
("operand", operand) or ("body", (instruction,)).
"""

from burnish.lattice import half_of, top_of
from burnish.words import binary, width, wrap


def operand_result(operand):
    """Return the result of a rule that gives an operand."""
    return ("operand", operand)


def constant_result(kind, number):
    """Return the result of a rule that gives a constant."""
    return ("operand", ("int", kind, number))


def body_result(name, op, kind, operands, data):
    """Return the result of a rule that gives an instruction that does not trap."""
    return ("body", ((name, op, kind, operands, data, -1),))


def made_by(book, operand, op):
    """Return the instruction that defines a name, if it has this op, else None."""
    maker = book.maker_of(operand)
    return maker if maker is not None and maker[1] == op else None


def constant_of(kind, word):
    """Return the constant that "0", "1", "M" or "H" stands for in a kind, None for another word."""
    if word == "0":
        return 0
    if word == "1":
        return 1
    if word == "M":
        return top_of(kind)
    return half_of(kind) if word == "H" else None


def _matches(book, kind, pattern, operand, told):
    """Tell whether an operand is what a pattern says; note in a dict what its letters stand for."""
    if isinstance(pattern, tuple):
        maker = made_by(book, operand, pattern[0])
        if maker is None:
            return False
        first, second = maker[3]
        return _matches(book, kind, pattern[1], first, told) and _matches(book, kind, pattern[2], second, told)
    if pattern in ("x", "y"):
        return told.setdefault(pattern, operand) == operand
    if pattern == "n":
        return operand[0] != "int" and told.setdefault(pattern, operand) == operand
    if operand[0] != "int":
        return False
    if pattern in ("c", "d"):
        return told.setdefault(pattern, operand[2]) == operand[2]
    return operand[2] == constant_of(kind, pattern)


def _shifts_meet(condition, w, c, d):
    """Tell whether two numbers of bits meet a condition."""
    if c >= w or d >= w:
        return False
    if condition == "c + d < w":
        return c + d < w
    return condition == "c, d < w" or c + d >= w


def _meets(condition, kind, told):
    """Tell whether the constants of a match meet the condition of a row."""
    w = width(kind)
    c, d = told.get("c", 0), told.get("d", 0)
    if condition == "":
        return True
    if condition == "w > 1":
        return w > 1
    if condition == "c":
        return c != 0
    if condition == "power":
        return 1 < c == 1 << c.bit_length() - 1
    if condition in ("c + d < w", "c + d >= w", "c, d < w"):
        return _shifts_meet(condition, w, c, d)
    if condition == "c < w":
        return c < w
    if condition == "c >= w":
        return c >= w
    if condition == "c >= w > 1":
        return c >= w > 1
    if condition == "no common bit":
        return c & d == 0
    if condition == "all bits":
        return c | d == top_of(kind)
    # What is left is "c >> d = 0".
    return d < w and c >> d == 0


def _computed(word, op, kind, told):
    """Return the constant that a word of a result stands for."""
    w = width(kind)
    c, d = told.get("c", 0), told.get("d", 0)
    if word in ("c", "d"):
        return told[word]
    if word == "-c":
        return wrap(w, -c)
    if word == "c op d":
        return binary(op, w, c, d)
    if word == "c + d":
        return c + d
    if word == "c + d or w - 1":
        return min(c + d, w - 1)
    if word == "w - 1":
        return w - 1
    if word == "k":
        return c.bit_length() - 1
    if word == "c - 1":
        return c - 1
    if word == "M >> c":
        return top_of(kind) >> c
    if word == "M << c":
        return top_of(kind) - ((1 << c) - 1)
    if word == "d << c":
        return wrap(w, d << c)
    return constant_of(kind, word)


def _operand_of(word, op, kind, told):
    """Return the operand that a word of a result stands for."""
    if word in ("x", "y", "n"):
        return told[word]
    return ("int", kind, _computed(word, op, kind, told))


def row_result(book, instruction, row):
    """Return what a row makes of an operation on two integers, None if it does not match."""
    name, op, kind, (first, second), _, _ = instruction
    told = {}
    if not _matches(book, kind, row[1], first, told) or not _matches(book, kind, row[2], second, told):
        return None
    if not _meets(row[3], kind, told):
        return None
    result = row[4]
    if not isinstance(result, tuple):
        return operand_result(_operand_of(result, op, kind, told))
    operands = tuple([_operand_of(word, op, kind, told) for word in result[1:]])
    return body_result(name, result[0], kind, operands, ())
