"""Showing: the text of a module."""


def show_operand(operand):
    """Return the text of an operand."""
    if operand[0] == "int":
        return f"{operand[1]} {operand[2]}"
    if operand[0] == "name":
        return f"${operand[1]}"
    if operand[0] == "global":
        return f"@{operand[1]}"
    return "null"


def _listed(operands):
    """Return the text of operands with commas between them."""
    return ", ".join([show_operand(operand) for operand in operands])


def _show_action(instruction):
    """Return the text of an instruction without its result and place."""
    _, op, kind, operands, data, _ = instruction
    if op == "icmp":
        return f"icmp {data[0]} {kind} {_listed(operands)}"
    if op == "alloca":
        return f"alloca {data[0]}"
    if op == "gep":
        return _show_gep(operands, data)
    if op == "kill":
        return f"kill {_listed(operands)}"
    if op == "call":
        return f"call {kind} {data[0]}({_listed(operands)})"
    return f"{op} {kind} {_listed(operands)}"


def _show_gep(operands, data):
    """Return the text of a gep without its result and place."""
    parts = [show_operand(operands[0]), str(data[0])]
    for index, scale in zip(operands[1:], data[1:]):
        parts.append(f"{show_operand(index)} * {scale}")
    return "gep " + ", ".join(parts)


def show_instruction(instruction):
    """Return the text of an instruction, without indentation and line feed."""
    text = _show_action(instruction)
    if instruction[0] != -1:
        text = f"${instruction[0]} = {text}"
    if instruction[5] != -1:
        text = f"{text} !{instruction[5]}"
    return text


def _show_edge(edge):
    """Return the text of an edge."""
    return f"{edge[0]}({_listed(edge[1])})"


def show_end(end):
    """Return the text of an end, without indentation and line feed."""
    if end[0] == "br":
        return f"br {_show_edge(end[1])}"
    if end[0] == "condbr":
        return f"condbr {show_operand(end[1])}, {_show_edge(end[2])}, {_show_edge(end[3])}"
    if end[0] == "switch":
        parts = [show_operand(end[1])]
        for value, edge in end[2]:
            parts.append(f"{value}: {_show_edge(edge)}")
        parts.append(f"else {_show_edge(end[3])}")
        return "switch " + ", ".join(parts)
    if end[0] == "stop":
        return f"stop !{end[1]}"
    if end[1] is None:
        return "ret"
    return f"ret {show_operand(end[1])}"


def _block_lines(block):
    """Return the list of the lines of a block."""
    label, params, body, end = block
    listed = ", ".join([f"${name} {kind}" for name, kind in params])
    lines = [f"{label}({listed}):"]
    for instruction in body:
        lines.append("  " + show_instruction(instruction))
    lines.append("  " + show_end(end))
    return lines


def _text_of(lines):
    """Return the text of lines, each with a line feed at its end."""
    return "".join([line + "\n" for line in lines])


def show_function(function):
    """Return the text of a function."""
    name, kind, internal, blocks = function
    word = "internal" if internal else "export"
    lines = [f"{word} {name} {kind} " + "{"]
    for block in blocks:
        lines.extend(_block_lines(block))
    lines.append("}")
    return _text_of(lines)


def _global_line(record):
    """Return the line of a global."""
    name, constant, values = record
    word = "constant" if constant else "global"
    listed = " ".join([str(value) for value in values])
    return f"{word} {name} {listed}"


def show_module(module):
    """Return the text of a module."""
    text = _text_of([_global_line(record) for record in module[0]])
    return text + "".join([show_function(function) for function in module[1]])
