"""Evaluation: the results of pure instructions and divisions on integers."""

from burnish.words import binary, cast, compare, width


def integer_result(op, kind, data, kinds, numbers):
    """Return the integer that the operation gives, None for a division by 0.

    `kinds` and `numbers` are those of the operands, all of them integers.
    """
    if op == "select":
        return numbers[1] if numbers[0] == 1 else numbers[2]
    if op == "icmp":
        return compare(data[0], width(kind), numbers[0], numbers[1])
    if op in ("trunc", "zext", "sext"):
        return cast(op, width(kinds[0]), width(kind), numbers[0])
    return binary(op, width(kind), numbers[0], numbers[1])
