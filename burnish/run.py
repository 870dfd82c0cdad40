"""Runs: machines that take steps, and their results."""

from burnish.execution import Execution, Program
from burnish.steps import start, state_of


class Machine:
    """A run that can be continued."""

    def __init__(self, module, data):
        self._program = Program(module)
        self._data = tuple(data)
        self._execution = Execution(self._program, self._data, start(module))
        self._taken = 0

    @property
    def out(self):
        """A new list of the bytes written so far."""
        return list(self._execution.written)

    @property
    def end(self):
        """The end of the run, ("none",) while it goes on."""
        return self._execution.ending

    @property
    def steps(self):
        """The number of all steps so far."""
        return self._taken

    @property
    def state(self):
        """The state that the run is in."""
        return state_of(self._execution)

    def go(self, *, fuel=1000):
        """Take steps until the run has an end or fuel steps were taken; return how many."""
        count = 0
        while count < fuel and not self._execution.is_over():
            self._execution.step()
            count += 1
        self._taken += count
        return count

    def rewind(self, state, steps):
        """Put the machine to a state that was reached after this many steps."""
        self._execution = Execution(self._program, self._data, state)
        self._taken = steps

    def depth(self):
        """Return the number of the frames."""
        return len(self._execution.frames)

    def entered(self):
        """Return (function, label) if the run stands at the beginning of a block, else None."""
        frame = self._execution.frames[-1]
        if frame.position != 0 or self._execution.is_over():
            return None
        return (frame.function, frame.block[0])


def run(module, data, *, fuel):
    """Return the result (out, end, steps) of a run."""
    machine = Machine(module, data)
    machine.go(fuel=fuel)
    return (machine.out, machine.end, machine.steps)


def visits(module, data, *, fuel):
    """Yield (function, label) for each block that a run enters."""
    machine = Machine(module, data)
    yield machine.entered()
    # A step leaves the run in front of position 0 only if it enters a block:
    # an instruction moves behind itself, and a ret leads behind a call.
    for _ in range(fuel):
        if machine.go(fuel=1) == 0:
            return
        place = machine.entered()
        if place is not None:
            yield place


def _begins(first, second):
    """Tell whether the first list is a prefix of the second one."""
    return second[:len(first)] == first


def same_run(first, second):
    """Tell whether two results may be those of runs that do the same."""
    out, end, _ = first
    other_out, other_end, _ = second
    if end != ("none",) and other_end != ("none",):
        return end == other_end and out == other_out
    if end != ("none",):
        return _begins(other_out, out)
    if other_end != ("none",):
        return _begins(out, other_out)
    return _begins(out, other_out) or _begins(other_out, out)
