"""Evaluation: the results of operations on integers."""

from burnish.words import binary, cast, compare, width


def integer_result(op, kind, data, kinds, numbers):
    """Return what a binary operation, an icmp or a cast gives, None for a division by 0.

    `kinds` and `numbers` are those of the operands, all of them integers.
    """
    if op == "icmp":
        return compare(data[0], width(kind), numbers[0], numbers[1])
    if op in ("trunc", "zext", "sext"):
        return cast(op, width(kinds[0]), width(kind), numbers[0])
    return binary(op, width(kind), numbers[0], numbers[1])
