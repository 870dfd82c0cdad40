"""Execution: a run that changes in place, one step at a time.

States of the document are never changed; this is what makes steps from them
without copying everything at each step.
"""

from burnish.evaluate import integer_result
from burnish.memory import ended_object, load_value, move_pointer, stored_object
from burnish.records import edges
from burnish.scopes import kinds_of, operand_kind
from burnish.words import compare, wrap

_RUNNING = ("none",)

_NULL = ("null",)


class Program:
    """A module with tables that find its blocks, kinds and globals quickly."""

    def __init__(self, module):
        self.whole = module
        self.functions = {}
        for function in reversed(module[1]):
            self.functions[function[0]] = function
        self.pointers = {}
        for number, record in enumerate(module[0]):
            if record[0] not in self.pointers:
                self.pointers[record[0]] = ("at", number, 0)
        self.blocks = {}
        self.kinds = {}

    def block_at(self, name, label):
        """Return the block of a function with this label."""
        if name not in self.blocks:
            self.blocks[name] = {block[0]: block for block in self.functions[name][3]}
        return self.blocks[name][label]

    def entry(self, name):
        """Return the entry of a function."""
        return self.functions[name][3][0]

    def kind_in(self, name, operand):
        """Return the kind of an operand in a function."""
        if operand[0] != "name":
            return operand_kind({}, operand)
        if name not in self.kinds:
            self.kinds[name] = kinds_of(self.functions[name])
        return operand_kind(self.kinds[name], operand)


class Frame:
    """A frame: a call that is not over yet."""

    def __init__(self, function, block, position, known, owned):
        self.function = function
        self.block = block
        self.position = position
        self.known = known
        self.owned = owned


class Execution:
    """A state that steps are taken from; it has dicts and lists of its own."""

    def __init__(self, program, data, state):
        frames, memory, taken, out, end = state
        self.program = program
        self.data = data
        self.frames = []
        for name, label, position, known, owned in frames:
            block = program.block_at(name, label)
            self.frames.append(Frame(name, block, position, {n: known[n] for n in known}, list(owned)))
        self.memory = list(memory)
        self.taken = taken
        self.written = list(out)
        self.ending = end

    def is_over(self):
        """Tell whether the run has an end."""
        return self.ending != _RUNNING

    def step(self):
        """Take one step; the run has no end yet."""
        frame = self.frames[-1]
        body = frame.block[2]
        if frame.position == len(body):
            self.leave_block(frame, frame.block[3])
            return
        instruction = body[frame.position]
        values = [self.value(frame, operand) for operand in instruction[3]]
        act = _ACTIONS.get(instruction[1], _compute)
        act(self, frame, instruction, values)

    def value(self, frame, operand):
        """Return the value of an operand in a frame."""
        if operand[0] == "name":
            return frame.known[operand[1]]
        if operand[0] == "int":
            return operand[2]
        if operand[0] == "global":
            return self.program.pointers[operand[1]]
        return _NULL

    def trap(self, word, place):
        """End the run by a trap."""
        self.ending = ("trap", word, place)

    def add_object(self, sort, count):
        """Add an object of this many bytes 0 and return the pointer to its beginning."""
        self.memory.append((sort, True, (0,) * count))
        return ("at", len(self.memory) - 1, 0)

    def end_life(self, number):
        """Let an object be no longer alive."""
        self.memory[number] = ended_object(self.memory[number])

    def may_end(self, pointer, sort):
        """Tell whether the pointer leads to the beginning of a living object of this sort."""
        if pointer == _NULL or pointer[2] != 0:
            return False
        record = self.memory[pointer[1]]
        return record[0] == sort and record[1]

    def enter(self, name, values):
        """Add a frame at the entry of a function with these arguments."""
        block = self.program.entry(name)
        known = {}
        for (param, _), value in zip(block[1], values):
            known[param] = value
        self.frames.append(Frame(name, block, 0, known, []))

    def leave_block(self, frame, end):
        """Take the step of the end of a block."""
        if end[0] == "stop":
            self.trap("stop", end[1])
        elif end[0] == "ret":
            self.leave_function(frame, end[1])
        else:
            self.follow(frame, edges(end)[self.slot_taken(frame, end)])

    def slot_taken(self, frame, end):
        """Return the slot of the edge that an end takes."""
        if end[0] == "br":
            return 0
        value = self.value(frame, end[1])
        if end[0] == "condbr":
            return 0 if value == 1 else 1
        for slot, case in enumerate(end[2]):
            if case[0] == value:
                return slot
        return len(end[2])

    def follow(self, frame, edge):
        """Go along an edge."""
        label, operands = edge
        values = [self.value(frame, operand) for operand in operands]
        frame.block = self.program.block_at(frame.function, label)
        frame.position = 0
        for (param, _), value in zip(frame.block[1], values):
            frame.known[param] = value

    def leave_function(self, frame, operand):
        """Take the step of a ret."""
        value = None
        if operand is not None:
            value = self.value(frame, operand)
        if len(self.frames) == 1:
            self.ending = ("exit", wrap(8, value))
            return
        self.frames.pop()
        for number in frame.owned:
            self.end_life(number)
        caller = self.frames[-1]
        if value is not None:
            call = caller.block[2][caller.position - 1]
            caller.known[call[0]] = value


def _give(frame, instruction, value):
    """Give a value to the name of an instruction and go on behind it."""
    frame.known[instruction[0]] = value
    frame.position += 1


def _compute(execution, frame, instruction, values):
    """Execute a pure instruction on integers, or a division."""
    _, op, kind, operands, data, place = instruction
    kinds = []
    if op in ("trunc", "zext", "sext"):
        kinds = [execution.program.kind_in(frame.function, operands[0])]
    value = integer_result(op, kind, data, kinds, values)
    if value is None:
        execution.trap("divide", place)
    else:
        _give(frame, instruction, value)


def _icmp(execution, frame, instruction, values):
    """Execute an icmp."""
    if instruction[2] != "ptr":
        _compute(execution, frame, instruction, values)
        return
    equal = int(values[0] == values[1])
    _give(frame, instruction, compare(instruction[4][0], 1, equal, 1))


def _select(execution, frame, instruction, values):
    """Execute a select."""
    _give(frame, instruction, values[1] if values[0] == 1 else values[2])


def _alloca(execution, frame, instruction, values):
    """Execute an alloca."""
    pointer = execution.add_object("stack", instruction[4][0])
    frame.owned.append(pointer[1])
    _give(frame, instruction, pointer)


def _gep(execution, frame, instruction, values):
    """Execute a gep."""
    data = instruction[4]
    amount = data[0]
    for index, scale in zip(values[1:], data[1:]):
        amount += index * scale
    _give(frame, instruction, move_pointer(values[0], amount))


def _load(execution, frame, instruction, values):
    """Execute a load."""
    value = load_value(execution.memory, values[0], instruction[2])
    if value is None:
        execution.trap("memory", instruction[5])
    else:
        _give(frame, instruction, value)


def _store(execution, frame, instruction, values):
    """Execute a store."""
    changed = stored_object(execution.memory, values[1], instruction[2], values[0])
    if changed is None:
        execution.trap("memory", instruction[5])
        return
    execution.memory[values[1][1]] = changed
    frame.position += 1


def _kill(execution, frame, instruction, values):
    """Execute a kill."""
    if execution.may_end(values[0], "stack"):
        execution.end_life(values[0][1])
    frame.position += 1


def _call(execution, frame, instruction, values):
    """Execute a call."""
    callee = instruction[4][0]
    if callee in _BUILTINS:
        act = _BUILTINS[callee]
        act(execution, frame, instruction, values)
        return
    frame.position += 1
    execution.enter(callee, values)


def _get(execution, frame, instruction, values):
    """Execute a call of get."""
    byte = 4294967295
    if execution.taken < len(execution.data):
        byte = execution.data[execution.taken]
        execution.taken += 1
    _give(frame, instruction, byte)


def _put(execution, frame, instruction, values):
    """Execute a call of put."""
    execution.written.append(wrap(8, values[0]))
    frame.position += 1


def _exit(execution, frame, instruction, values):
    """Execute a call of exit."""
    execution.ending = ("exit", wrap(8, values[0]))


def _malloc(execution, frame, instruction, values):
    """Execute a call of malloc."""
    pointer = _NULL
    if 1 <= values[0] <= 4096:
        pointer = execution.add_object("heap", values[0])
    _give(frame, instruction, pointer)


def _free(execution, frame, instruction, values):
    """Execute a call of free."""
    if values[0] == _NULL:
        frame.position += 1
    elif execution.may_end(values[0], "heap"):
        execution.end_life(values[0][1])
        frame.position += 1
    else:
        execution.trap("memory", instruction[5])


_BUILTINS = {"get": _get, "put": _put, "exit": _exit, "malloc": _malloc, "free": _free}

_ACTIONS = {
    "icmp": _icmp, "select": _select, "alloca": _alloca, "gep": _gep, "load": _load,
    "store": _store, "kill": _kill, "call": _call,
}
