"""Forms: whether a plain value is a step, an operand or an instruction."""

from burnish.records import builtin
from burnish.tables import (
    has_items, is_demand_table, is_edge, is_effect_table, is_equation_table, is_linear_table, is_name, is_name_pair,
    is_tuple_of, is_value_table, is_whole, first_items, rises,
)
from burnish.words import width

_INTEGERS = ("i1", "i8", "i16", "i32", "i64")

_BINARY = ("add", "sub", "mul", "and", "or", "xor", "shl", "lshr", "ashr")

_PREDICATES = ("eq", "ne", "ult", "ule", "ugt", "uge", "slt", "sle", "sgt", "sge")

_LETTERS = "abcdefghijklmnopqrstuvwxyz"

_SIGNS = "abcdefghijklmnopqrstuvwxyz0123456789_"

# Names, labels and places are below this number.
_LIMIT = 10 ** 9

# The greatest offset or scale of a gep is 1 less.
_OFFSET = 1 << 31


def _is_text(value):
    """Tell whether a plain value is a string."""
    return isinstance(value, str)


def _is_kind(value):
    """Tell whether a plain value is a kind."""
    return _is_text(value) and (value in _INTEGERS or value == "ptr")


def _is_integer_kind(value):
    """Tell whether a plain value is an integer kind."""
    return _is_text(value) and value in _INTEGERS


def _is_number(value):
    """Tell whether a plain value is a name of a value, or a place."""
    return is_name(value) and value < _LIMIT


def _is_global(value):
    """Tell whether a plain value may be the name of a global."""
    if not _is_text(value) or not 1 <= len(value) <= 20 or builtin(value) is not None:
        return False
    return value[0] in _LETTERS and all([sign in _SIGNS for sign in value])


def is_operand(value):
    """Tell whether a plain value is an operand."""
    if value == ("null",):
        return True
    if has_items(value, 3):
        if value[0] != "int" or not _is_integer_kind(value[1]):
            return False
        return is_name(value[2]) and value[2] < 1 << width(value[1])
    if not has_items(value, 2) or not _is_text(value[0]):
        return False
    if value[0] == "name":
        return _is_number(value[1])
    return value[0] == "global" and _is_global(value[1])


def _is_offset(value):
    """Tell whether a plain value may be an offset or a scale of a gep."""
    return is_whole(value) and -_OFFSET <= value < _OFFSET


def _fits_op(op, kind, count, data):
    """Tell whether a kind, a number of operands and data fit the op of a pure instruction or a load."""
    if op == "gep":
        return kind == "ptr" and 1 <= count <= 5 and len(data) == count and is_tuple_of(data, _is_offset)
    if op == "icmp":
        return _is_kind(kind) and count == 2 and len(data) == 1 and _is_text(data[0]) and data[0] in _PREDICATES
    if data != ():
        return False
    if op == "select":
        return _is_kind(kind) and count == 3
    if op == "load":
        return _is_kind(kind) and count == 1
    if op in ("trunc", "zext", "sext"):
        return _is_integer_kind(kind) and count == 1
    return op in _BINARY and _is_integer_kind(kind) and count == 2


def is_instruction(value):
    """Tell whether a plain value is a pure instruction or a load."""
    if not has_items(value, 6):
        return False
    name, op, kind, operands, data, place = value
    if not _is_number(name) or not _is_text(op) or not is_tuple_of(operands, is_operand):
        return False
    if not isinstance(data, tuple) or not _fits_op(op, kind, len(operands), data):
        return False
    if op == "load":
        return _is_number(place)
    return is_whole(place) and place == -1


def _is_memory_fact(value):
    """Tell whether a plain value is (pointer, kind, value) of two operands."""
    return has_items(value, 3) and is_operand(value[0]) and _is_kind(value[1]) and is_operand(value[2])


def _is_memory_row(value):
    """Tell whether a plain value is a label with at least one fact."""
    if not has_items(value, 2) or not is_whole(value[0]) or not is_tuple_of(value[1], _is_memory_fact):
        return False
    return value[1] != () and rises(value[1])


def is_memory_table(value):
    """Tell whether a plain value has the form of a memory table."""
    return is_tuple_of(value, _is_memory_row) and rises(first_items(value))


def _is_facts(value):
    """Tell whether a plain value is a triple of a value table, an effect table and a memory table."""
    return has_items(value, 3) and is_value_table(value[0]) and is_effect_table(value[1]) and is_memory_table(value[2])


def _is_names(value):
    """Tell whether a plain value is a tuple of names."""
    return is_tuple_of(value, is_name)


def _is_wholes(value):
    """Tell whether a plain value is a tuple of integers: labels or sizes."""
    return is_tuple_of(value, is_whole)


def _is_pairs(value):
    """Tell whether a plain value is a tuple of pairs of integers: edges, places or labels."""
    return is_tuple_of(value, is_edge)


def _is_name_pairs(value):
    """Tell whether a plain value is a tuple of pairs of names."""
    return is_tuple_of(value, is_name_pair)


def _is_operands(value):
    """Tell whether a plain value is a tuple of operands."""
    return is_tuple_of(value, is_operand)


_PARTS = {
    "text": _is_text, "whole": is_whole, "name": is_name, "kind": _is_kind, "operand": is_operand,
    "operands": _is_operands, "instruction": is_instruction, "names": _is_names, "wholes": _is_wholes,
    "pairs": _is_pairs, "name pairs": _is_name_pairs, "values": is_value_table, "effects": is_effect_table,
    "equations": is_equation_table, "linear": is_linear_table, "demand": is_demand_table, "facts": _is_facts,
}

_SHAPES = {
    "prune": ("text",),
    "fold_end": ("text", "whole"),
    "drop_case": ("text", "whole", "whole"),
    "as_condbr": ("text", "whole", "name"),
    "swap": ("text", "whole"),
    "join": ("text", "whole"),
    "cut": ("text", "whole", "whole", "whole"),
    "skip": ("text", "whole", "whole"),
    "gather": ("text", "whole", "names", "pairs"),
    "copy": ("text", "whole", "whole", "names", "pairs"),
    "copy_region": ("text", "whole", "wholes", "wholes", "names", "pairs"),
    "twins": ("text", "pairs", "whole", "whole", "whole"),
    "add_param": ("text", "whole", "name", "kind", "operands"),
    "same_param": ("text", "whole", "whole", "operand"),
    "use_params": ("text", "pairs"),
    "fork": ("text", "whole", "operand"),
    "edge_value": ("text", "whole", "whole"),
    "rename": ("text", "pairs", "name pairs"),
    "insert": ("text", "whole", "whole", "instruction"),
    "drop_names": ("text", "names"),
    "delete_call": ("text", "effects", "whole", "whole"),
    "delete_load": ("text", "facts", "pairs"),
    "same": ("text", "whole", "whole", "whole", "whole"),
    "prefer": ("text", "name", "name"),
    "move": ("text", "whole", "whole", "whole", "whole"),
    "rule": ("text", "whole", "whole", "whole", "names"),
    "ranged_rule": ("text", "values", "whole", "whole", "whole", "names"),
    "ranges": ("text", "values", "names"),
    "demanded": ("text", "values", "demand", "whole", "whole"),
    "undemanded": ("text", "values", "demand", "names"),
    "equal": ("text", "equations", "name pairs"),
    "linear": ("text", "values", "linear", "whole", "whole", "operand"),
    "forward": ("text", "facts", "pairs"),
    "same_store": ("text", "facts", "pairs"),
    "insert_load": ("text", "facts", "whole", "whole", "instruction"),
    "dead_store": ("text", "facts", "whole", "whole", "whole"),
    "unread_store": ("text", "facts", "pairs"),
    "split_alloca": ("text", "whole", "whole", "wholes", "names"),
    "drop_kills": ("text", "name"),
    "constant_load": ("text", "whole", "whole"),
    "fix_global": ("text",),
    "drop_global": ("text",),
    "inline": ("text", "whole", "whole", "whole", "wholes", "names"),
    "split_entry": ("text", "whole", "names"),
    "tail": ("text", "whole"),
    "drop_argument": ("text", "whole"),
    "same_argument": ("text", "whole", "operand"),
    "drop_result": ("text",),
    "drop_function": ("text",),
    "same_function": ("text", "text"),
}


def has_shape(value):
    """Tell whether a plain value is a step of one of the shapes."""
    if not isinstance(value, tuple) or value == () or not _is_text(value[0]) or value[0] not in _SHAPES:
        return False
    shape = _SHAPES[value[0]]
    if len(value) != len(shape) + 1:
        return False
    for word, item in zip(shape, value[1:]):
        is_part = _PARTS[word]
        if not is_part(item):
            return False
    return True
