"""Drafts: certificates that passes make step by step."""

from burnish.check import apply_step
from burnish.records import find_function, new_name
from burnish.scopes import reached


class Draft:
    """The certificate of a function that grows, and the module that it leads to."""

    def __init__(self, module, name):
        self.whole = module
        self.name = name
        self.emitted = []

    def subject(self):
        """Return the function as it is."""
        return find_function(self.whole, self.name)

    def emit(self, step):
        """Append a step and go on with the changed module; tell whether the step was not refused."""
        changed = apply_step(self.whole, step)
        if changed is None:
            return False
        self.whole = changed
        self.emitted.append(step)
        return True

    def mark(self):
        """Return what `back_to` needs to come back to here."""
        return (self.whole, len(self.emitted))

    def back_to(self, mark):
        """Take back all steps since a mark."""
        self.whole = mark[0]
        self.emitted = self.emitted[:mark[1]]

    def prune(self):
        """Remove the blocks that no path reaches, if there are any."""
        function = self.subject()
        if len(reached(function)) < len(function[3]):
            self.emit(("prune", self.name))

    def new_names(self, count):
        """Return a tuple of so many new names."""
        first = new_name(self.subject())
        return tuple(range(first, first + count))


def over_functions(module, name, action, amount):
    """Return the certificate that an action makes for a function, or for all in order if the name is "".

    `action` is a function of a draft and an amount.
    """
    names = [function[0] for function in module[1]] if name == "" else [name]
    found = []
    for own in names:
        draft = Draft(module, own)
        action(draft, amount)
        found.extend(draft.emitted)
        module = draft.whole
    return tuple(found)


def cut_to(steps, amount):
    """Return a certificate of the steps, of so many of them only if the amount is above 0."""
    return tuple(steps[:amount]) if amount > 0 else tuple(steps)
