"""The step that leads an edge to the twin of its block."""

from burnish.edits import block_in, block_names, edge_at, open_labels
from burnish.graphsteps import renamed_block
from burnish.records import edges, find_function, map_labels, put_block, put_function, with_edge
from burnish.tables import rises


def _unlabelled(block):
    """Return what of a block is neither its label nor the labels of its edges."""
    return block[1:3] + (map_labels(block[3], lambda label: 0),)


def are_alike(first, second, pairs):
    """Tell whether two blocks do the same, but for their names and edges to the two labels of a pair.

    `pairs` is a dict whose keys are the pairs.
    """
    own = block_names(second)
    others = block_names(first)
    if len(own) != len(others):
        return False
    renamed = renamed_block(second, {}, {old: new for old, new in zip(own, others)})
    if _unlabelled(first) != _unlabelled(renamed):
        return False
    targets = [(edge[0], other[0]) for edge, other in zip(edges(first[3]), edges(second[3]))]
    return all([pair[0] == pair[1] or pair in pairs for pair in targets])


def _are_twins(function, pairs):
    """Tell whether the blocks of each pair exist, are closed and alike."""
    blocks = {block[0]: block for block in function[3]}
    entry = function[3][0][0]
    told = {pair: True for pair in pairs}
    opened = open_labels(function)
    for pair in pairs:
        if pair[0] == pair[1] or entry in pair:
            return False
        if any([label not in blocks or label in opened for label in pair]):
            return False
        if not are_alike(blocks[pair[0]], blocks[pair[1]], told):
            return False
    return True


def twins(module, step):
    """Lead an edge to the other block of a pair of blocks that do the same for ever."""
    _, name, pairs, label, slot, target = step
    function = find_function(module, name)
    if function is None or not pairs or not rises(pairs):
        return None
    edge = edge_at(function, label, slot)
    if edge is None or (edge[0], target) not in pairs or not _are_twins(function, pairs):
        return None
    block = block_in(module, name, label)[1]
    changed = block[:3] + (with_edge(block[3], slot, (target, edge[1])),)
    return put_function(module, put_block(function, changed))
