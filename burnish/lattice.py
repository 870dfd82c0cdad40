"""Ranges: what is known of the value of a word.

A range is (lo, hi, zeros, ones): the least and the greatest value, the bits
that are known to be 0, and those that are known to be 1.
"""

from burnish.words import binary, cast, compare, opposite, swapped, width


def top_of(kind):
    """Return the greatest value of an integer kind."""
    return (1 << width(kind)) - 1


def half_of(kind):
    """Return the top bit of an integer kind."""
    return 1 << (width(kind) - 1)


def full(kind):
    """Return the range of all values of a kind."""
    return (0, top_of(kind), 0, 0)


def single(kind, value):
    """Return the range of one value."""
    return (value, value, top_of(kind) - value, value)


def is_single(bounds):
    """Tell whether a range is that of one value; None is the range of a pointer."""
    return bounds is not None and bounds[0] == bounds[1]


def union(a, b):
    """Return the least range that contains both."""
    return (min(a[0], b[0]), max(a[1], b[1]), a[2] & b[2], a[3] & b[3])


def within(a, b):
    """Tell whether the first range is within the second one."""
    if a[0] < b[0] or a[1] > b[1]:
        return False
    return a[2] & b[2] == b[2] and a[3] & b[3] == b[3]


def _tightened(kind, bounds):
    """Return the range after one turn of making it normal, None if it has no value."""
    lo, hi, zeros, ones = bounds
    top = top_of(kind)
    if lo > hi or zeros & ones:
        return None
    # The bits above the highest one in which lo and hi differ are those of both.
    fixed = top - ((1 << (lo ^ hi).bit_length()) - 1)
    zeros |= fixed & (top - lo)
    ones |= fixed & lo
    if zeros & ones:
        return None
    lo = max(lo, ones)
    hi = min(hi, top - zeros)
    if lo > hi:
        return None
    if lo == hi:
        if lo & zeros or lo & ones != ones:
            return None
        return single(kind, lo)
    return (lo, hi, zeros, ones)


def normal(kind, bounds):
    """Return the range made normal, None if it has no value."""
    before = None
    while bounds is not None and bounds != before:
        before = bounds
        bounds = _tightened(kind, bounds)
    return bounds


def transfer(op, kind, data, kinds, ranges):
    """Return a range that contains each result, None if there is none.

    `kinds` and `ranges` are those of the operands, None for the range of a
    pointer.
    """
    if op == "select":
        return normal(kind, _select(ranges))
    if op == "icmp":
        return _icmp(kind, data[0], ranges)
    if op in ("trunc", "zext", "sext"):
        return _cast(op, kind, kinds[0], ranges[0])
    if op not in _ROWS:
        return full(kind)
    if is_single(ranges[0]) and is_single(ranges[1]):
        result = binary(op, width(kind), ranges[0][0], ranges[1][0])
        return None if result is None else single(kind, result)
    row = _ROWS[op]
    bounds = row(op, kind, ranges[0], ranges[1])
    return None if bounds is None else normal(kind, bounds)


def _select(ranges):
    """Return the range of a select."""
    condition, first, second = ranges
    if not is_single(condition):
        return union(first, second)
    return first if condition[0] == 1 else second


def _icmp(kind, predicate, ranges):
    """Return the range of an icmp."""
    if kind == "ptr":
        return full("i1")
    a, b = ranges
    if is_single(a) and is_single(b):
        return single("i1", compare(predicate, width(kind), a[0], b[0]))
    told = decide(predicate, kind, a, b)
    return full("i1") if told is None else single("i1", told)


def _cast(op, kind, old, bounds):
    """Return the range of a cast from the old kind."""
    if is_single(bounds):
        return single(kind, cast(op, width(old), width(kind), bounds[0]))
    lo, hi, zeros, ones = bounds
    top = top_of(kind)
    if op == "trunc":
        if hi > top:
            lo, hi = 0, top
        return normal(kind, (lo, hi, zeros & top, ones & top))
    if op == "sext" and not zeros & half_of(old):
        return full(kind)
    return normal(kind, (lo, hi, zeros | top - top_of(old), ones))


def _and(op, kind, a, b):
    """Return the range of an and."""
    return (0, min(a[1], b[1]), a[2] | b[2], a[3] & b[3])


def _or(op, kind, a, b):
    """Return the range of an or."""
    return (max(a[0], b[0]), top_of(kind), a[2] & b[2], a[3] | b[3])


def _xor(op, kind, a, b):
    """Return the range of a xor."""
    zeros = a[2] & b[2] | a[3] & b[3]
    ones = a[2] & b[3] | a[3] & b[2]
    return (0, top_of(kind), zeros, ones)


def _low_bits(op, kind, a, b):
    """Return zeros and ones of a sum, difference or product: the low bits known in both."""
    unknown = top_of(kind) - ((a[2] | a[3]) & (b[2] | b[3]))
    # Its lowest bit less 1 is the mask of the known low bits; all, if no bit is unknown.
    mask = (unknown & -unknown) - 1 & top_of(kind)
    ones = binary(op, width(kind), a[3] & mask, b[3] & mask) & mask
    return mask - ones, ones


def _arithmetic(op, kind, a, b):
    """Return the range of an add, sub or mul."""
    top = top_of(kind)
    zeros, ones = _low_bits(op, kind, a, b)
    if op == "add":
        lo, hi = a[0] + b[0], a[1] + b[1]
    elif op == "sub":
        lo, hi = a[0] - b[1], a[1] - b[0]
    else:
        lo, hi = a[0] * b[0], a[1] * b[1]
    if op == "add" and lo > top:
        lo, hi = lo - top - 1, hi - top - 1
    if op == "sub" and hi < 0:
        lo, hi = lo + top + 1, hi + top + 1
    if lo < 0 or hi > top:
        lo, hi = 0, top
    return (lo, hi, zeros, ones)


def _shift(op, kind, a, b):
    """Return the range of a shift."""
    lo, hi, zeros, ones = a
    top = top_of(kind)
    count = b[0]
    if not is_single(b) or op == "ashr" and not zeros & half_of(kind):
        return full(kind)
    if count >= width(kind):
        return single(kind, 0)
    if op != "shl":
        high = top - (top >> count)
        return (lo >> count, hi >> count, zeros >> count | high, ones >> count)
    low = (1 << count) - 1
    zeros = zeros << count & top | low
    ones = ones << count & top
    if hi << count > top:
        return (0, top, zeros, ones)
    return (lo << count, hi << count, zeros, ones)


def _divide(op, kind, a, b):
    """Return the range of a udiv or urem, None if it always traps."""
    if b[1] == 0:
        return None
    if op == "udiv":
        if is_single(b):
            return (a[0] // b[0], a[1] // b[0], 0, 0)
        return (0, a[1], 0, 0)
    if not is_single(b):
        return (0, min(a[1], b[1] - 1), 0, 0)
    if a[1] < b[0]:
        return (a[0], a[1], 0, 0)
    return (0, b[0] - 1, 0, 0)


def _divide_signed(op, kind, a, b):
    """Return the range of a sdiv or srem."""
    return full(kind)


_ROWS = {
    "and": _and, "or": _or, "xor": _xor, "add": _arithmetic, "sub": _arithmetic, "mul": _arithmetic,
    "shl": _shift, "lshr": _shift, "ashr": _shift, "udiv": _divide, "urem": _divide,
    "sdiv": _divide_signed, "srem": _divide_signed,
}


def decide(predicate, kind, a, b):
    """Return 1 or 0 if the ranges decide the comparison, else None."""
    if predicate == "eq":
        return _equal(a, b)
    if predicate in ("ult", "slt"):
        return _less(predicate, kind, a, b)
    if predicate in ("ugt", "sgt"):
        return decide(swapped(predicate), kind, b, a)
    told = decide(opposite(predicate), kind, a, b)
    return None if told is None else 1 - told


def _equal(a, b):
    """Return what the ranges tell of the equality of the values."""
    if a[1] < b[0] or b[1] < a[0] or a[3] & b[2] or a[2] & b[3]:
        return 0
    if is_single(a) and is_single(b):
        return 1
    return None


def _less(predicate, kind, a, b):
    """Return what the ranges tell of ult or slt."""
    if predicate == "slt":
        half = half_of(kind)
        if not (a[2] | a[3]) & half or not (b[2] | b[3]) & half:
            return None
        if a[3] & half != b[3] & half:
            return 1 if a[3] & half else 0
    if a[1] < b[0]:
        return 1
    if a[0] >= b[1]:
        return 0
    return None


def refine(predicate, kind, a, b):
    """Return the two ranges after the comparison was true, None if one has no value."""
    if predicate in ("ugt", "uge", "sgt", "sge"):
        told = refine(swapped(predicate), kind, b, a)
        return None if told is None else (told[1], told[0])
    if predicate in ("slt", "sle"):
        half = half_of(kind)
        if a[2] & half and b[2] & half:
            a, b = _ordered(predicate[1:], a, b)
    elif predicate == "eq":
        a = b = (max(a[0], b[0]), min(a[1], b[1]), a[2] | b[2], a[3] | b[3])
    elif predicate == "ne":
        a, b = _without(a, b), _without(b, a)
    else:
        a, b = _ordered(predicate[1:], a, b)
    a, b = normal(kind, a), normal(kind, b)
    return None if a is None or b is None else (a, b)


def _ordered(relation, a, b):
    """Return the two ranges where the first value is less ("lt"), or less or equal ("le")."""
    apart = 1 if relation == "lt" else 0
    first = (a[0], min(a[1], b[1] - apart), a[2], a[3])
    second = (max(b[0], a[0] + apart), b[1], b[2], b[3])
    return first, second


def _without(a, b):
    """Return the first range without the value of the second one, if that is single."""
    lo, hi, zeros, ones = a
    if is_single(b):
        if lo == b[0]:
            lo += 1
        if hi == b[0]:
            hi -= 1
    return (lo, hi, zeros, ones)
