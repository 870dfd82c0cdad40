"""Memory: objects, what they hold, and the pointers into them."""

from burnish.words import bytes_of, from_bytes, size, width, wrap

_NULL = ("null",)


def allowed(memory, pointer, count):
    """Tell whether an access of this many bytes at the pointer is allowed."""
    if pointer == _NULL:
        return False
    _, number, offset = pointer
    if number >= len(memory):
        return False
    _, alive, cells = memory[number]
    return alive and offset + count <= len(cells)


def load_value(memory, pointer, kind):
    """Return the value of this kind at the pointer, or None if loading fails."""
    count = size(kind)
    if not allowed(memory, pointer, count):
        return None
    _, number, offset = pointer
    cells = memory[number][2][offset:offset + count]
    if kind == "ptr":
        return _pointer_in(cells)
    if any([not isinstance(cell, int) for cell in cells]):
        return None
    return wrap(width(kind), from_bytes(cells))


def _pointer_in(cells):
    """Return the pointer that eight cells form, or None."""
    if all([cell == 0 for cell in cells]):
        return _NULL
    if any([isinstance(cell, int) for cell in cells]):
        return None
    pointer = cells[0][0]
    if list(cells) != _pieces(pointer):
        return None
    return pointer


def _pieces(pointer):
    """Return the list of the pieces of a pointer that is not null."""
    return [(pointer, k) for k in range(8)]


def cells_of(kind, value):
    """Return the list of the cells that a value of this kind becomes."""
    if kind != "ptr":
        return bytes_of(size(kind), value)
    if value == _NULL:
        return [0] * 8
    return _pieces(value)


def stored_object(memory, pointer, kind, value):
    """Return the object of the pointer with the value in it, or None if storing fails."""
    count = size(kind)
    if not allowed(memory, pointer, count):
        return None
    _, number, offset = pointer
    sort, alive, cells = memory[number]
    if sort == "constant":
        return None
    changed = cells[:offset] + tuple(cells_of(kind, value)) + cells[offset + count:]
    return (sort, alive, changed)


def store_value(memory, pointer, kind, value):
    """Return the memory with the value at the pointer, or None if storing fails."""
    changed = stored_object(memory, pointer, kind, value)
    if changed is None:
        return None
    number = pointer[1]
    return memory[:number] + (changed,) + memory[number + 1:]


def add_object(memory, sort, cells):
    """Return the memory with one more object, alive, and the pointer to its beginning."""
    return memory + ((sort, True, cells),), ("at", len(memory), 0)


def ended_object(record):
    """Return the object, not alive."""
    sort, _, cells = record
    return (sort, False, cells)


def end_life(memory, number):
    """Return the memory in which this object is not alive."""
    return memory[:number] + (ended_object(memory[number]),) + memory[number + 1:]


def move_pointer(pointer, amount):
    """Return the pointer moved by an amount of bytes; null stays null."""
    if pointer == _NULL:
        return pointer
    return ("at", pointer[1], wrap(64, pointer[2] + amount))


def first_memory(module):
    """Return the memory at the start: one object for each global."""
    found = []
    for _, constant, values in module[0]:
        found.append(("constant" if constant else "global", True, values))
    return tuple(found)
