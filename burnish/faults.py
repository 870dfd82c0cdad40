"""Faults: what keeps a module from being valid."""

from burnish.flow import immediate, tree_spans
from burnish.records import edges, end_operands, find_function, is_division, may_trap, result_kind
from burnish.scopes import block_numbers, block_targets, kinds_of, operand_kind, signature
from burnish.words import width

_INTEGERS = ("i1", "i8", "i16", "i32", "i64")

_BITWISE = ("add", "sub", "mul", "and", "or", "xor", "shl", "lshr", "ashr")


def faults(module):
    """Return the list of the faults of a module."""
    found = {}
    names = {}
    for record in module[0]:
        _note_name(found, names, record[0])
    for function in module[1]:
        _note_name(found, names, function[0])
        for fault in function_faults(module, function):
            found[fault] = True
    if not _has_main(module):
        found[("", -1, -1, "main")] = True
    return list(found)


def is_valid(module):
    """Tell whether a module has no faults."""
    return faults(module) == []


def _note_name(found, names, name):
    """Add the name, and a fault if it is not new."""
    if name in names:
        found[(name, -1, -1, "name")] = True
    names[name] = True


def _has_main(module):
    """Tell whether the first function main is as it must be."""
    function = find_function(module, "main")
    if function is None:
        return False
    _, kind, internal, blocks = function
    return kind == "i32" and not internal and blocks[0][1] == ()


def function_faults(module, function):
    """Return the list of the faults of a function, without those of its name."""
    checker = Checker(module, function)
    found = {}
    for number, block in enumerate(function[3]):
        for position, codes in checker.block_codes(number, block):
            for code in sorted(set(codes)):
                found[(function[0], block[0], position, code)] = True
    return list(found)


class Checker:
    """What must be known of a function to find the faults of its blocks."""

    def __init__(self, module, function):
        self.whole = module
        self.kind = function[1]
        self.globals_known = {record[0]: True for record in module[0]}
        self.signatures = {}
        self.kinds = kinds_of(function)
        self.labels = block_numbers(function)
        self.params = [[kind for _, kind in block[1]] for block in function[3]]
        self.is_entered_again = _leads_to_entry(function)
        self.places, self.repeated = _definition_places(function)
        self.numbers, self.greatest = tree_spans(immediate(block_targets(function)))

    def block_codes(self, number, block):
        """Return pairs (position, codes) for a block, its body and its end."""
        label, params, body, end = block
        codes = []
        if self.labels[label] != number:
            codes.append("label")
        if number == 0 and self.is_entered_again:
            codes.append("entry")
        if (number, -1) in self.repeated:
            codes.append("twice")
        rows = [(-1, codes)]
        for position, instruction in enumerate(body):
            rows.append((position, self.instruction_codes((number, position), instruction)))
        rows.append((len(body), self.end_codes((number, len(body)), end)))
        return rows

    def instruction_codes(self, place, instruction):
        """Return the codes of an instruction."""
        name, op, kind, operands, data, trap_place = instruction
        wanted, codes = self.wanted_kinds(instruction)
        if place in self.repeated:
            codes.append("twice")
        if (name == -1) != (result_kind(instruction) == "void"):
            codes.append("result")
        if (trap_place == -1) == may_trap(op):
            codes.append("place")
        if op == "gep" and len(data) != len(operands):
            codes.append("count")
        if op == "icmp" and kind == "ptr" and data[0] not in ("eq", "ne"):
            codes.append("kind")
        return codes + self.operand_codes(place, operands) + self.kind_codes(operands, wanted)

    def wanted_kinds(self, instruction):
        """Return, for the operands in order, the lists of the kinds that they may have; and codes."""
        _, op, kind, operands, data, _ = instruction
        if op == "call":
            return self.wanted_of_call(kind, data[0], len(operands))
        if op in ("trunc", "zext", "sext"):
            return [_cast_kinds(op, kind)], []
        if op == "select":
            return [["i1"], [kind], [kind]], []
        if op == "gep":
            return [["ptr"]] + [["i64"]] * (len(operands) - 1), []
        if op == "store":
            return [[kind], ["ptr"]], []
        if op in _BITWISE or op == "icmp" or is_division(op):
            return [[kind], [kind]], []
        return [["ptr"]], []

    def wanted_of_call(self, kind, callee, count):
        """Return what `wanted_kinds` returns, for a call with this number of arguments."""
        if callee not in self.signatures:
            self.signatures[callee] = signature(self.whole, callee)
        told = self.signatures[callee]
        if told is None:
            return [], ["unknown"]
        codes = []
        if told[1] != kind:
            codes.append("kind")
        if len(told[0]) != count:
            codes.append("count")
        return [[param] for param in told[0]], codes

    def end_codes(self, place, end):
        """Return the codes of the end of a block."""
        codes = self.operand_codes(place, end_operands(end))
        for label, operands in edges(end):
            if label not in self.labels:
                codes.append("unknown")
                continue
            params = self.params[self.labels[label]]
            if len(params) != len(operands):
                codes.append("count")
            codes.extend(self.kind_codes(operands, [[kind] for kind in params]))
        if end[0] == "condbr":
            codes.extend(self.kind_codes([end[1]], [["i1"]]))
        if end[0] == "switch":
            codes.extend(self.switch_codes(end))
        if end[0] == "ret":
            codes.extend(self.return_codes(end[1]))
        return codes

    def switch_codes(self, end):
        """Return the codes of the value of a switch and of those of its cases."""
        codes = self.kind_codes([end[1]], [_INTEGERS])
        values = [value for value, _ in end[2]]
        if any([values[k] >= values[k + 1] for k in range(len(values) - 1)]):
            codes.append("cases")
        kind = operand_kind(self.kinds, end[1])
        if kind in _INTEGERS and max(values, default=0) >= 1 << width(kind):
            codes.append("kind")
        return codes

    def return_codes(self, operand):
        """Return the codes of what a ret returns."""
        if (operand is None) != (self.kind == "void"):
            return ["kind"]
        if operand is None:
            return []
        return self.kind_codes([operand], [[self.kind]])

    def is_unknown(self, operand):
        """Tell whether an operand names what does not exist."""
        if operand[0] == "name":
            return operand[1] not in self.kinds
        return operand[0] == "global" and operand[1] not in self.globals_known

    def operand_codes(self, place, operands):
        """Return the codes of operands that hold wherever they stand."""
        codes = []
        for operand in operands:
            if self.is_unknown(operand):
                codes.append("unknown")
            elif operand[0] == "name" and not self.is_ahead(operand[1], place):
                codes.append("order")
        return codes

    def kind_codes(self, operands, wanted):
        """Return a code for each known operand that has none of the kinds it may have."""
        codes = []
        for operand, kinds in zip(operands, wanted):
            if not self.is_unknown(operand) and operand_kind(self.kinds, operand) not in kinds:
                codes.append("kind")
        return codes

    def is_ahead(self, name, place):
        """Tell whether a name is defined ahead of its use at a place."""
        number, position = place
        if self.numbers[number] < 0:
            return True
        maker, made_at = self.places[name]
        if maker == number:
            return made_at < position
        if self.numbers[maker] < 0:
            return False
        return self.numbers[maker] <= self.numbers[number] <= self.greatest[maker]


def _leads_to_entry(function):
    """Tell whether an edge of the function has the label of the entry."""
    entry = function[3][0][0]
    return any([label == entry for block in function[3] for label, _ in edges(block[3])])


def _definition_places(function):
    """Return a dict from each name to the place of its first definition, and one of the other places.

    A place is (number of the block, position), with the position -1 for the params.
    """
    places = {}
    repeated = {}
    for number, (_, params, body, _) in enumerate(function[3]):
        made = [(-1, name) for name, _ in params]
        for position, instruction in enumerate(body):
            if instruction[0] != -1:
                made.append((position, instruction[0]))
        for position, name in made:
            if name in places:
                repeated[(number, position)] = True
            else:
                places[name] = (number, position)
    return places, repeated


def _cast_kinds(op, kind):
    """Return the list of the kinds that the operand of a cast to this kind may have."""
    if op == "trunc":
        return [other for other in _INTEGERS if width(other) > width(kind)]
    return [other for other in _INTEGERS if width(other) < width(kind)]
