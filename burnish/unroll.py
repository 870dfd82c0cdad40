"""Unroll: the first turns of loops copied ahead of them, and several turns made one."""

from burnish.drafting import over_functions
from burnish.edits import incoming
from burnish.plainloops import Nesting, close_loops, copy_block, simple_loops
from burnish.records import edges, find_block

# Loops are peeled and unrolled so often at most.
_MOST = 8


def _edges_from(draft, copies, target):
    """Return the list of the edges from copies to a block; `copies` is a dict from labels to their copies."""
    made = {copied: True for copied in copies.values()}
    return [place for place in incoming(draft.subject(), target) if place[0] in made]


def _copy_round(draft, order, places):
    """Copy the blocks of a loop once, the header for edges, the others for the edges from the copies.

    Return a dict from each label to its copy, None if a step is refused.
    """
    copies = {}
    for label in order:
        if copies:
            places = _edges_from(draft, copies, label)
        if not places:
            continue
        copies[label] = copy_block(draft, label, places)
        if copies[label] == -1:
            return None
    return copies


def _peel_loop(draft, nesting, loop, amount):
    """Copy the first turns of a loop ahead of it; tell whether no step was refused."""
    order = nesting.ordered(loop)
    places = [(nesting.ahead_of(loop), 0)]
    for _ in range(amount):
        copies = _copy_round(draft, order, places)
        if copies is None:
            return False
        places = _edges_from(draft, copies, loop[0])
        if not places:
            break
    return True


def _twin_pairs(order, rounds):
    """Return the ascending tuple of the pairs of copies of which each one does what the next one does.

    `rounds` is a list of dicts from labels to the copies of a round; the first one has the labels themselves.
    """
    found = []
    last = len(rounds) - 1
    for label in order:
        found.extend([(rounds[k + 1][label], rounds[k][label]) for k in range(last)])
        if last > 1:
            found.append((rounds[1][label], rounds[last][label]))
    return tuple(sorted(found))


def _lead_back(draft, order, rounds, latch, header):
    """Lead the back edge of the last copy of a latch to the header; tell whether no step was refused."""
    at = rounds[-1][latch]
    targets = [copies[header] for copies in rounds]
    for slot, (target, _) in enumerate(edges(find_block(draft.subject(), at)[3])):
        if target in targets[1:]:
            return draft.emit(("twins", draft.name, _twin_pairs(order, rounds), at, slot, header))
    return True


def _unroll_loop(draft, nesting, loop, amount):
    """Make one turn of several turns of a loop; tell whether no step was refused."""
    header, _, (latch,), _, _ = loop
    order = nesting.ordered(loop)
    rounds = [{label: label for label in order}]
    for _ in range(amount - 1):
        places = [place for place in incoming(draft.subject(), header) if place[0] == rounds[-1][latch]]
        copies = _copy_round(draft, order, places)
        if copies is None:
            return False
        rounds.append(copies)
        if not _lead_back(draft, order, rounds, latch, header):
            return False
    return True


def _over_loops(draft, action, amount):
    """Do an action for each simple loop of a function with closed blocks."""
    close_loops(draft, 1000)
    for header in [row[0] for row in simple_loops(draft.subject())]:
        nesting = Nesting(draft.subject())
        loop = nesting.loop_of(header)
        if loop is None or not nesting.is_simple(loop):
            continue
        mark = draft.mark()
        if not action(draft, nesting, loop, min(amount, _MOST)):
            draft.back_to(mark)


def _peel_all(draft, amount):
    """Peel the simple loops of a function."""
    _over_loops(draft, _peel_loop, amount)


def _unroll_all(draft, amount):
    """Unroll the simple loops of a function."""
    _over_loops(draft, _unroll_loop, amount)


def peel(module, name, *, amount=1):
    """Return the certificate that copies the first turns of loops ahead of them."""
    return over_functions(module, name, _peel_all, amount)


def unroll(module, name, *, amount=2):
    """Return the certificate that makes one turn of several turns of loops."""
    return over_functions(module, name, _unroll_all, amount)
