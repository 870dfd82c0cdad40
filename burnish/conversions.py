"""Rules for casts and for geps; their form is told in burnish/comparisons.py."""

from burnish.lattice import top_of
from burnish.patterns import body_result, made_by, operand_result
from burnish.words import width

# The greatest offset of a gep is 1 less.
_OFFSET = 1 << 31


def _same_cast(book, instruction):
    """61: take two casts of one sort in one."""
    name, op, kind, (operand,), _, _ = instruction
    maker = made_by(book, operand, op)
    return None if maker is None else body_result(name, op, kind, maker[3], ())


def _sext_of_zext(book, instruction):
    """62: take a sext of a zext in one."""
    name, _, kind, (operand,), _, _ = instruction
    maker = made_by(book, operand, "zext")
    return None if maker is None else body_result(name, "zext", kind, maker[3], ())


def _trunc_of_wider(book, instruction):
    """63: take a trunc of what was made wider in one."""
    name, _, kind, (operand,), _, _ = instruction
    maker = made_by(book, operand, "zext") or made_by(book, operand, "sext")
    if maker is None:
        return None
    x = maker[3][0]
    old = book.kind_of(x)
    if old == kind:
        return operand_result(x)
    return body_result(name, "trunc" if width(old) > width(kind) else maker[1], kind, (x,), ())


TRUNC = ((61, _same_cast), (63, _trunc_of_wider))

ZEXT = ((61, _same_cast),)

SEXT = ((61, _same_cast), (62, _sext_of_zext))


def _no_offset(book, instruction):
    """64: a gep that moves nothing."""
    return operand_result(instruction[3][0]) if instruction[4] == (0,) else None


def _gep_of_gep(book, instruction):
    """65: take a gep without indices of another gep in one."""
    name, _, _, operands, data, _ = instruction
    maker = made_by(book, operands[0], "gep")
    if maker is None or len(operands) > 1:
        return None
    offset = maker[4][0] + data[0]
    if not -_OFFSET <= offset < _OFFSET:
        return None
    return body_result(name, "gep", "ptr", maker[3], (offset,) + maker[4][1:])


GEP = ((64, _no_offset), (65, _gep_of_gep))


def all_bits_kept(book, instruction):
    """67: an and of a zext that keeps all bits that can be 1."""
    name, _, kind, (first, second), _, _ = instruction
    maker = made_by(book, first, "zext")
    if maker is None or second[0] != "int":
        return None
    top = top_of(book.kind_of(maker[3][0]))
    return body_result(name, "zext", kind, maker[3], ()) if second[2] & top == top else None
