"""Expressions such as "add [sub x y] y", as instructions of a function and as functions of Python.

An op stands ahead of its operands: "add", "icmp:ult:i8" (the predicate and the
kind of the operands), "zext:i8" (the kind of the operand), "gep:4:8" (offset
and scales). A letter is a parameter, a number a constant; "null" is a pointer.
"""

WIDTHS = {"i1": 1, "i8": 8, "i16": 16, "i32": 32, "i64": 64}
LAST = 99


class Builder:
    """Makes the instructions of expressions over the same parameters."""

    def __init__(self, kind):
        self.kind = kind
        self.params = {}
        self.rows = []

    def operand(self, tree, kind):
        """Return the operand of a tree, making the instructions that it needs."""
        if isinstance(tree, list):
            row = self.instruction(tree, kind, len(self.rows) + 40)
            self.rows.append(row)
            return ("name", row[0])
        if tree == "null":
            return ("null",)
        if tree.lstrip("-").isdigit():
            return ("int", kind, int(tree) % 2 ** WIDTHS[kind])
        return ("name", self.params.setdefault((tree, kind), len(self.params)))

    def instruction(self, tree, kind, name):
        """Return the instruction of a tree, with this name."""
        op, *more = tree[0].split(":")
        if op == "icmp":
            row = ("icmp", more[1], tuple(self.operand(part, more[1]) for part in tree[1:]), (more[0],))
        elif op in ("trunc", "zext", "sext"):
            row = (op, kind, (self.operand(tree[1], more[0]),), ())
        elif op == "select":
            row = (op, kind, (self.operand(tree[1], "i1"),) + tuple(self.operand(part, kind) for part in tree[2:]), ())
        elif op == "gep":
            row = (op, "ptr", (self.operand(tree[1], "ptr"),) + tuple(self.operand(part, "i64") for part in tree[2:]), tuple(int(n) for n in more))
        else:
            row = (op, kind, tuple(self.operand(part, kind) for part in tree[1:]), ())
        return (name,) + row + (5 if op in ("udiv", "sdiv", "urem", "srem") else -1,)

    def function(self, text):
        """Return a function whose last instruction is an expression, and this instruction."""
        last = self.instruction(tree_of(text), self.kind, LAST)
        params = tuple((name, kind) for (_, kind), name in sorted(self.params.items(), key=lambda item: item[1]))
        result = "i1" if last[1] == "icmp" else last[2]
        return ("f", result, True, ((0, params, tuple(self.rows) + (last,), ("ret", ("name", LAST))),)), last

    def due(self, text):
        """Return what a rule gives that makes an expression."""
        tree = tree_of(text)
        kind = "i1" if self.is_bit else self.kind
        if not isinstance(tree, list):
            return ("operand", self.operand(tree, kind))
        before = list(self.rows)
        row = self.instruction(tree, self.kind, LAST)
        assert self.rows == before, text
        return ("body", (row,))

    is_bit = False


def tree_of(text):
    """Return an expression as nested lists of words; a single word is itself."""
    words = text.replace("[", " [ ").replace("]", " ] ").split()
    stack = [[]]
    for word in words:
        if word == "[":
            stack.append([])
        elif word == "]":
            done = stack.pop()
            stack[-1].append(done)
        else:
            stack[-1].append(word)
    assert len(stack) == 1, text
    return stack[0] if len(stack[0]) > 1 else stack[0][0]


def divided(op, w, a, b):
    """Return the result of a division, None for a trap."""
    if b == 0:
        return None
    if op[0] == "s":
        half = 2 ** (w - 1)
        a, b = (a ^ half) - half, (b ^ half) - half
    quotient = abs(a) // abs(b) * (1 if (a < 0) == (b < 0) else -1)
    return (quotient if op.endswith("div") else a - b * quotient) % 2 ** w


def python_of(tree, kind, letters):
    """Return the source of an expression in Python; letters are added to a dict with their kinds."""
    if not isinstance(tree, list):
        if tree.lstrip("-").isdigit():
            return str(int(tree) % 2 ** WIDTHS[kind])
        letters[tree] = kind
        return tree
    op, *more = tree[0].split(":")
    if op == "icmp":
        return compared(more[0], WIDTHS[more[1]], *[python_of(part, more[1], letters) for part in tree[1:]])
    if op in ("trunc", "zext", "sext"):
        return converted(op, WIDTHS[more[0]], WIDTHS[kind], python_of(tree[1], more[0], letters))
    if op == "select":
        c, a, b = python_of(tree[1], "i1", letters), python_of(tree[2], kind, letters), python_of(tree[3], kind, letters)
        return f"({a} if {c} else {b})"
    a, b = [python_of(part, kind, letters) for part in tree[1:]]
    w = WIDTHS[kind]
    top, half = 2 ** w - 1, 2 ** (w - 1)
    if op in ("udiv", "sdiv", "urem", "srem"):
        return f"divided('{op}', {w}, {a}, {b})"
    return {
        "add": f"({a} + {b} & {top})", "sub": f"({a} - {b} & {top})", "mul": f"({a} * {b} & {top})", "and": f"({a} & {b})", "or": f"({a} | {b})", "xor": f"({a} ^ {b})",
        "shl": f"({a} << {b} & {top} if {b} < {w} else 0)", "lshr": f"({a} >> min({b}, {w}))", "ashr": f"(({a} ^ {half}) - {half} >> min({b}, {w}) & {top})",
    }[op]


def compared(predicate, w, a, b):
    half = 2 ** (w - 1)
    sign = {"eq": "==", "ne": "!=", "lt": "<", "le": "<=", "gt": ">", "ge": ">="}[predicate[-2:]]
    if predicate[0] == "s":
        a, b = f"({a} ^ {half})", f"({b} ^ {half})"
    return f"int({a} {sign} {b})"


def converted(op, old, new, a):
    if op == "trunc":
        return f"({a} & {2 ** new - 1})"
    return a if op == "zext" else f"(({a} ^ {2 ** (old - 1)}) - {2 ** (old - 1)} & {2 ** new - 1})"


def callables(texts, kind):
    """Return functions of Python for expressions, over the same letters, and these letters with their kinds."""
    letters = {}
    sources = [python_of(tree_of(text), kind, letters) for text in texts]
    names = sorted(letters)
    return [eval(f"lambda {', '.join(names)}: {source}", {"divided": divided}) for source in sources], [(name, letters[name]) for name in names]
