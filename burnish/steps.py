"""Steps: the state at the start of a run, and the one behind each step."""

from burnish.execution import Execution, Program
from burnish.memory import first_memory
from burnish.records import find_function


def operand_value(module, frame, operand):
    """Return the value of an operand in a frame."""
    if operand[0] == "int":
        return operand[2]
    if operand[0] == "name":
        return frame[3][operand[1]]
    if operand[0] == "global":
        names = [record[0] for record in module[0]]
        return ("at", names.index(operand[1]), 0)
    return ("null",)


def start(module):
    """Return the state at the start."""
    entry = find_function(module, "main")[3][0]
    frame = ("main", entry[0], 0, {}, ())
    return ((frame,), first_memory(module), 0, (), ("none",))


def step(module, data, state):
    """Return the state after one step, with dicts of its own."""
    if state[4] != ("none",):
        return state
    execution = Execution(Program(module), data, state)
    execution.step()
    return state_of(execution)


def state_of(execution):
    """Return the state that an execution is in, with dicts of its own."""
    frames = []
    for frame in execution.frames:
        known = {name: frame.known[name] for name in frame.known}
        frames.append((frame.function, frame.block[0], frame.position, known, tuple(frame.owned)))
    return (tuple(frames), tuple(execution.memory), execution.taken, tuple(execution.written), execution.ending)
