"""Words: the operations on integers of the five widths."""

_WIDTHS = {"i1": 1, "i8": 8, "i16": 16, "i32": 32, "i64": 64}

_SIZES = {"i1": 1, "i8": 1, "i16": 2, "i32": 4, "i64": 8, "ptr": 8}

_OPPOSITES = {
    "eq": "ne", "ne": "eq",
    "ult": "uge", "uge": "ult", "ule": "ugt", "ugt": "ule",
    "slt": "sge", "sge": "slt", "sle": "sgt", "sgt": "sle",
}

_SWAPPED = {
    "eq": "eq", "ne": "ne",
    "ult": "ugt", "ugt": "ult", "ule": "uge", "uge": "ule",
    "slt": "sgt", "sgt": "slt", "sle": "sge", "sge": "sle",
}


def width(kind):
    """Return the number of bits of an integer kind."""
    return _WIDTHS[kind]


def size(kind):
    """Return the number of bytes that a value of the kind takes in memory."""
    return _SIZES[kind]


def signed(w, x):
    """Return the signed reading of a word of w bits."""
    if x >= 1 << (w - 1):
        return x - (1 << w)
    return x


def wrap(w, n):
    """Return n modulo 2 ** w."""
    return n & ((1 << w) - 1)


def binary(op, w, x, y):
    """Return the result of a binary operation, None for a division by 0."""
    if op in ("udiv", "urem", "sdiv", "srem"):
        return _divided(op, w, x, y)
    if op in ("shl", "lshr", "ashr"):
        return _shifted(op, w, x, y)
    if op == "add":
        return wrap(w, x + y)
    if op == "sub":
        return wrap(w, x - y)
    if op == "mul":
        return wrap(w, x * y)
    if op == "and":
        return x & y
    if op == "or":
        return x | y
    return x ^ y


def _divided(op, w, x, y):
    """Return the quotient or remainder, None if y is 0."""
    if y == 0:
        return None
    if op == "udiv":
        return x // y
    if op == "urem":
        return x % y
    a, b = signed(w, x), signed(w, y)
    # // rounds down, but the document rounds toward zero: divide the sizes.
    quotient = abs(a) // abs(b)
    if (a < 0) != (b < 0):
        quotient = -quotient
    if op == "sdiv":
        return wrap(w, quotient)
    return wrap(w, a - quotient * b)


def _shifted(op, w, x, y):
    """Return the word shifted; a shift by w or more is allowed."""
    if op == "ashr":
        return wrap(w, signed(w, x) >> min(y, w))
    if y >= w:
        return 0
    if op == "shl":
        return wrap(w, x << y)
    return x >> y


def compare(predicate, w, x, y):
    """Return 1 if the predicate holds of the two words, else 0."""
    if predicate[0] == "s":
        return _ordered(predicate[1:], signed(w, x), signed(w, y))
    if predicate[0] == "u":
        return _ordered(predicate[1:], x, y)
    return _ordered(predicate, x, y)


def _ordered(relation, x, y):
    """Return 1 if the relation holds of the two integers, else 0."""
    if relation == "eq":
        return int(x == y)
    if relation == "ne":
        return int(x != y)
    if relation == "lt":
        return int(x < y)
    if relation == "le":
        return int(x <= y)
    if relation == "gt":
        return int(x > y)
    return int(x >= y)


def opposite(predicate):
    """Return the predicate that holds just where this one does not."""
    return _OPPOSITES[predicate]


def swapped(predicate):
    """Return the predicate that says the same of exchanged operands."""
    return _SWAPPED[predicate]


def cast(op, v, w, x):
    """Return a word of v bits as one of w bits."""
    if op == "sext":
        return wrap(w, signed(v, x))
    if op == "trunc":
        return wrap(w, x)
    return x


def bytes_of(count, x):
    """Return the list of the count lowest bytes of x, the lowest first."""
    return [x >> 8 * k & 255 for k in range(count)]


def from_bytes(row):
    """Return the number whose bytes are those of the list, the lowest first."""
    number = 0
    for byte in reversed(row):
        number = number * 256 + byte
    return number
