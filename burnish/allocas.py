"""Allocas: how a function uses the objects that it makes."""

from burnish.objectsteps import is_access, users_of
from burnish.words import size


def allocas_of(function):
    """Return the list of the allocas of a function, in the order of definitions."""
    return [made for block in function[3] for made in block[2] if made[1] == "alloca"]


def plain_uses(users, name):
    """Return the list of (op, kind, offset) of the uses of a plain alloca, None for one that is not plain.

    `users` is what `users_of` returns. A gep is followed by the uses of its result.
    """
    found = []
    for made, index in users.get(("name", name), ()):
        if is_access(made, index, ("load", "store", "kill")):
            found.append((made[1], made[2], 0))
        elif is_access(made, index, ("gep",)) and len(made[3]) == 1:
            found.append(("gep", "ptr", made[4][0]))
            for user, at in users.get(("name", made[0]), ()):
                if not is_access(user, at, ("load", "store")):
                    return None
                found.append((user[1], user[2], made[4][0]))
        else:
            return None
    return found


def uniform_kind(users, alloca):
    """Return the kind of a uniform alloca without kill, None for another one."""
    found = plain_uses(users, alloca[0])
    if not found or not all([op in ("load", "store") for op, _, _ in found]):
        return None
    kind = found[0][1]
    if size(kind) > alloca[4][0] or not all([other == kind for _, other, _ in found]):
        return None
    return kind


def is_killed(users, name):
    """Tell whether an alloca is plain and has kills."""
    return any([op == "kill" for op, _, _ in plain_uses(users, name) or ()])


def uniform_pairs(function):
    """Return the list of the pairs (name, kind) of the uniform allocas without kill, in order."""
    users = users_of(function)
    found = [(alloca[0], uniform_kind(users, alloca)) for alloca in allocas_of(function)]
    return [(name, kind) for name, kind in found if kind is not None]
