"""Strength: products of counters that become sums."""

from burnish.drafting import over_functions
from burnish.edits import incoming
from burnish.plainloops import Nesting
from burnish.records import edges, find_block
from burnish.values import own_names
from burnish.words import width, wrap


def _makers_in(function, labels):
    """Return a dict from each result of these blocks to its instruction."""
    inside = {label: True for label in labels}
    return {made[0]: made for block in function[3] if block[0] in inside for made in block[2]}


def _step_of(made, param, kind):
    """Return what an instruction adds to a param, None if it does not add an integer to it."""
    _, op, its, operands, _, _ = made
    if its != kind or op not in ("add", "sub"):
        return None
    first, second = operands
    if first == ("name", param) and second[0] == "int":
        return wrap(width(kind), second[2] if op == "add" else -second[2])
    if op == "add" and second == ("name", param) and first[0] == "int":
        return first[2]
    return None


def _latch_arguments(function, loop):
    """Return the args of the edge from the latch of a simple loop to its header."""
    end = find_block(function, loop[2][0])[3]
    return [operands for target, operands in edges(end) if target == loop[0]][0]


def counters(function, loop):
    """Return the list of (name, step) of the counters of a simple loop, in the order of the params."""
    makers = _makers_in(function, loop[1])
    found = []
    for (param, kind), operand in zip(find_block(function, loop[0])[1], _latch_arguments(function, loop)):
        if kind == "ptr" or operand[0] != "name" or operand[1] not in makers:
            continue
        step = _step_of(makers[operand[1]], param, kind)
        if step is not None:
            found.append((param, step))
    return found


def _factor(made, told):
    """Return (counter, factor) of a product of a counter and an integer other than 0, else None."""
    if made[1] != "mul":
        return None
    for counter, number in (made[3], made[3][::-1]):
        if counter[0] == "name" and counter[1] in told and number[0] == "int" and number[2] != 0:
            return (counter[1], number[2])
    return None


def _first_product(nesting, function):
    """Return (loop, label, k, counter, step, factor) of the first product to handle, or None."""
    blocks = {block[0]: block for block in function[3]}
    for loop in nesting.found:
        if not nesting.is_simple(loop):
            continue
        told = {name: step for name, step in counters(function, loop)}
        for label in loop[1]:
            for k, made in enumerate(blocks[label][2]):
                found = _factor(made, told)
                if found is not None:
                    return (loop, label, k, found[0], told[found[0]], found[1])
    return None


def _insert_last(draft, label, back, made):
    """Insert an instruction so far from the end of a body; return its result as an operand, None if refused."""
    k = len(find_block(draft.subject(), label)[2]) - back
    fresh = draft.new_names(1)[0]
    return ("name", fresh) if draft.emit(("insert", draft.name, label, k, (fresh,) + made)) else None


def _add_products(draft, ahead, loop, counter, kind, factor):
    """Give the header a param for the products of a counter; return (param, last product) or None."""
    function = draft.subject()
    header, latch = loop[0], loop[2][0]
    row = [param for param, _ in find_block(function, header)[1]]
    at = row.index(counter)
    number = ("int", kind, factor)
    first = edges(find_block(function, ahead)[3])[0][1][at]
    later = _latch_arguments(function, loop)[at]
    one = _insert_last(draft, ahead, 0, ("mul", kind, (first, number), (), -1))
    if one is None:
        return None
    other = _insert_last(draft, latch, 0, ("mul", kind, (later, number), (), -1))
    if other is None:
        return None
    fresh = draft.new_names(1)[0]
    passed = tuple([one if label == ahead else other for label, _ in incoming(draft.subject(), header)])
    if not draft.emit(("add_param", draft.name, header, fresh, kind, passed)):
        return None
    return (fresh, other)


def _handle(draft, ahead, found):
    """Let a product become a sum; tell whether no step was refused."""
    loop, label, k, counter, step, factor = found
    latch = loop[2][0]
    kind = find_block(draft.subject(), label)[2][k][2]
    told = _add_products(draft, ahead, loop, counter, kind, factor)
    if told is None:
        return False
    # Nothing has to be known of values.
    values = ((), tuple(sorted(own_names(draft.subject()))), ())
    linear = ((told[0], counter, factor, 0),)
    if not draft.emit(("linear", draft.name, values, linear, label, k, ("name", told[0]))):
        return False
    added = ("int", kind, wrap(width(kind), factor * step))
    total = _insert_last(draft, latch, 1, ("add", kind, (("name", told[0]), added), (), -1))
    if total is None:
        return False
    last = len(find_block(draft.subject(), latch)[2]) - 1
    return draft.emit(("linear", draft.name, values, linear, latch, last, total))


def _strengthen(draft, amount):
    """Let the first products of counters of a function become sums."""
    draft.prune()
    for _ in range(amount):
        nesting = Nesting(draft.subject())
        found = _first_product(nesting, draft.subject())
        if found is None:
            return
        mark = draft.mark()
        if not _handle(draft, nesting.ahead_of(found[0]), found):
            draft.back_to(mark)
            return


def strength(module, name, *, amount=1000):
    """Return the certificate that lets products of counters become sums."""
    return over_functions(module, name, _strengthen, amount)
