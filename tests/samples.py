"""Modules for the tests: the one of the document, and random ones."""

TEXT = """global g 7 0 0 0
constant h 255
internal add1 i32 {
0($0 i32):
  $1 = add i32 $0, i32 1
  ret $1
}
export main i32 {
0():
  $0 = alloca 16
  $1 = gep $0, 4, i64 2 * -4, i64 1 * 8
  store i32 i32 5, $1 !1
  $2 = load i32 $1 !2
  $3 = call i32 add1($2) !3
  $4 = icmp slt i32 $3, i32 6
  kill $0
  condbr $4, 1(), 2($3, @g)
1():
  stop !4
2($5 i32, $6 ptr):
  switch $5, 6: 3(), 9: 1(), else 3()
3():
  ret $5
}
"""

INTEGERS = ("i1", "i8", "i16", "i32", "i64")
KINDS = INTEGERS + ("ptr",)
WIDTHS = {"i1": 1, "i8": 8, "i16": 16, "i32": 32, "i64": 64}
BINARIES = ("add", "sub", "mul", "and", "or", "xor", "shl", "lshr", "ashr")
DIVISIONS = ("udiv", "sdiv", "urem", "srem")
PREDICATES = ("eq", "ne", "ult", "ule", "ugt", "uge", "slt", "sle", "sgt", "sge")
CALLEES = {"get": ((), "i32"), "put": (("i32",), "void"), "malloc": (("i64",), "ptr"), "free": (("ptr",), "void")}


def some_value(rnd, kind):
    """Return a value of an integer kind, often one at an edge."""
    w = WIDTHS[kind]
    top, half = 2 ** w - 1, 2 ** (w - 1)
    value = rnd.choice((0, 1, 2, 3, 4, 8, half - 1, half, top - 1, top, rnd.randrange(top + 1), rnd.randrange(min(top, 20) + 1)))
    return min(max(value, 0), top)


class Maker:
    """Makes a random module without faults; its runs write, trap, loop and end."""

    def __init__(self, rnd, *, blocks=6, rows=6, kinds=KINDS):
        self.rnd = rnd
        self.blocks = blocks
        self.rows = rows
        self.kinds = kinds
        self.globals = ()
        self.signatures = {}
        self.next_name = 0
        self.place = 0

    def module(self):
        rnd = self.rnd
        self.globals = tuple(
            (f"g{k}", rnd.random() < 0.4, tuple(rnd.randrange(256) for _ in range(rnd.choice((1, 4, 8, 12)))))
            for k in range(rnd.randrange(3))
        )
        for name in ("f", "h")[:rnd.randrange(3)]:
            params = tuple(rnd.choice(self.kinds) for _ in range(rnd.randrange(3)))
            self.signatures[name] = (params, rnd.choice(self.kinds + ("void",)))
        functions = [self.function(name, *told) for name, told in self.signatures.items()]
        functions.append(self.function("main", (), "i32"))
        return (self.globals, tuple(functions))

    def fresh(self):
        self.next_name += 1
        return self.next_name - 1

    def spot(self):
        self.place += 1
        return self.place - 1

    def function(self, name, kinds, kind):
        rnd = self.rnd
        self.next_name = rnd.randrange(4)
        labels = rnd.sample(range(40), rnd.randrange(1, self.blocks + 1))
        params = {label: tuple(rnd.choice(self.kinds) for _ in range(rnd.randrange(3))) for label in labels}
        params[labels[0]] = kinds
        shared = {}
        found = []
        for label in labels:
            found.append(self.block(label, params, labels, shared, kind))
            if label == labels[0]:
                shared = found[0][1]
        return (name, kind, name != "main", tuple(record for record, _ in found))

    def block(self, label, params, labels, shared, kind):
        """Return the block, and the names that it has available at its end."""
        names = {other: list(row) for other, row in shared.items()}
        own = tuple((self.fresh(), its) for its in params[label])
        for name, its in own:
            names.setdefault(its, []).append(name)
        body = []
        for _ in range(self.rnd.randrange(self.rows + 1)):
            instruction, its = self.instruction(names)
            body.append(instruction)
            if its is not None:
                names.setdefault(its, []).append(instruction[0])
        return (label, own, tuple(body), self.end(names, params, labels, kind)), names

    def operand(self, names, kind):
        rnd = self.rnd
        if names.get(kind) and rnd.random() < 0.75:
            return ("name", rnd.choice(names[kind]))
        if kind != "ptr":
            return ("int", kind, some_value(rnd, kind))
        if self.globals and rnd.random() < 0.7:
            return ("global", rnd.choice(self.globals)[0])
        return ("null",)

    def instruction(self, names):
        """Return an instruction, and the kind of its result or None."""
        rnd = self.rnd
        op = rnd.choice(("binary",) * 3 + ("division", "icmp", "select", "cast", "alloca", "gep", "load", "store", "store",
                                           "kill", "call", "call", "put"))
        kind = rnd.choice([k for k in self.kinds if k != "ptr"])
        any_kind = rnd.choice(self.kinds)
        if op == "binary" or op == "division":
            op = rnd.choice(BINARIES if op == "binary" else DIVISIONS)
            place = self.spot() if op in DIVISIONS else -1
            return (self.fresh(), op, kind, (self.operand(names, kind), self.operand(names, kind)), (), place), kind
        if op == "icmp":
            predicate = rnd.choice(PREDICATES if any_kind != "ptr" else ("eq", "ne"))
            pair = (self.operand(names, any_kind), self.operand(names, any_kind))
            return (self.fresh(), "icmp", any_kind, pair, (predicate,), -1), "i1"
        if op == "select":
            row = (self.operand(names, "i1"), self.operand(names, any_kind), self.operand(names, any_kind))
            return (self.fresh(), "select", any_kind, row, (), -1), any_kind
        if op == "cast":
            return self.cast(names, kind)
        if op == "alloca":
            return (self.fresh(), "alloca", "ptr", (), (rnd.choice((1, 2, 4, 8, 16)),), -1), "ptr"
        return self.memory_instruction(op, names, any_kind)

    def cast(self, names, kind):
        others = [k for k in self.kinds if k != "ptr" and k != kind]
        if not others:
            return (self.fresh(), "add", kind, (self.operand(names, kind),) * 2, (), -1), kind
        old = self.rnd.choice(others)
        op = "trunc" if WIDTHS[old] > WIDTHS[kind] else self.rnd.choice(("zext", "sext"))
        return (self.fresh(), op, kind, (self.operand(names, old),), (), -1), kind

    def memory_instruction(self, op, names, kind):
        rnd = self.rnd
        pointer = self.operand(names, "ptr")
        if op == "gep":
            count = rnd.choice((0, 0, 1, 2))
            data = tuple(rnd.choice((0, 1, 2, 4, -4, 8, -1)) for _ in range(count + 1))
            return (self.fresh(), "gep", "ptr", (pointer,) + tuple(self.operand(names, "i64") for _ in range(count)), data, -1), "ptr"
        if op == "load":
            return (self.fresh(), "load", kind, (pointer,), (), self.spot()), kind
        if op == "store":
            return (-1, "store", kind, (self.operand(names, kind), pointer), (), self.spot()), None
        if op == "kill":
            return (-1, "kill", "void", (pointer,), (), -1), None
        callees = dict(CALLEES)
        callees.update(self.signatures)
        callee = "put" if op == "put" else rnd.choice(sorted(callees))
        params, result = callees[callee]
        args = tuple(self.operand(names, its) for its in params)
        name = -1 if result == "void" else self.fresh()
        return (name, "call", result, args, (callee,), self.spot()), None if name == -1 else result

    def edge(self, names, params, labels):
        label = self.rnd.choice(labels[1:])
        return (label, tuple(self.operand(names, its) for its in params[label]))

    def end(self, names, params, labels, kind):
        rnd = self.rnd
        word = rnd.choice(("br", "br", "condbr", "condbr", "condbr", "switch", "ret", "stop"))
        if word in ("br", "condbr", "switch") and len(labels) == 1:
            word = "ret"
        if word == "br":
            return ("br", self.edge(names, params, labels))
        if word == "condbr":
            return ("condbr", self.operand(names, "i1"), self.edge(names, params, labels), self.edge(names, params, labels))
        if word == "switch":
            its = rnd.choice([k for k in self.kinds if k != "ptr"])
            values = sorted({some_value(rnd, its) for _ in range(rnd.randrange(4))})
            cases = tuple((value, self.edge(names, params, labels)) for value in values)
            return ("switch", self.operand(names, its), cases, self.edge(names, params, labels))
        if word == "stop":
            return ("stop", self.spot())
        return ("ret", None if kind == "void" else self.operand(names, kind))
