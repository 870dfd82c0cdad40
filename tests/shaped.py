"""Random modules with a shape: branches, counted loops, switches, objects, and functions that call each other."""

from samples import BINARIES, DIVISIONS, PREDICATES, WIDTHS, some_value

SIZES = {"i1": 1, "i8": 1, "i16": 2, "i32": 4, "i64": 8, "ptr": 8}
KINDS = ("i1", "i8", "i8", "i32", "i64", "ptr")


class Shaper:
    """Makes a module whose runs go through loops and calls; most of them end."""

    def __init__(self, rnd, *, statements=6, depth=2):
        self.rnd = rnd
        self.statements = statements
        self.depth = depth
        self.place = 0
        self.globals = ()
        self.signatures = {}

    def module(self):
        rnd = self.rnd
        self.globals = tuple((f"g{k}", rnd.random() < 0.5, tuple(rnd.randrange(256) for _ in range(16))) for k in range(rnd.randrange(1, 4)))
        functions = []
        for name in ("pure", "work", "round")[:rnd.randrange(4)]:
            params = tuple(rnd.choice(("i8", "i32", "ptr")) for _ in range(rnd.randrange(1, 3)))
            kind = rnd.choice(("i8", "i32", "void"))
            functions.append(self.function(name, params, kind))
            self.signatures[name] = (params, kind)
            if rnd.random() < 0.3:
                twin = (name + "2",) + functions[-1][1:]
                functions.append(renumbered(twin, name, rnd))
                self.signatures[name + "2"] = (params, kind)
        functions.append(self.function("main", (), "i32"))
        rnd.shuffle(functions)
        return (self.globals, tuple(functions))

    def spot(self):
        self.place += 1
        return self.place

    def function(self, name, kinds, kind):
        self.name, self.kind, self.blocks, self.names, self.labels = name, kind, [], 0, 0
        self.objects, self.in_loop = {}, 0
        params = tuple((self.fresh(), its) for its in kinds)
        label = self.new_label()
        if name == "round":
            # The entry passes its parameters on, so that a call of itself at an end is a tail.
            behind = self.new_label()
            self.blocks.append((label, params, (), ("br", (behind, tuple(("name", n) for n, _ in params)))))
            label, params = behind, tuple((self.fresh(), its) for its in kinds)
        env = {}
        for n, its in params:
            env.setdefault(its, []).append(("name", n))
        self.begin(label, params)
        for _ in range(self.rnd.randrange(3)):
            self.alloca(env)
        self.write(env, self.depth)
        if name == "round":
            self.recur(env, kinds)
        self.leave(("ret", None if kind == "void" else self.operand(env, kind)))
        if self.rnd.random() < 0.15:
            self.begin(self.new_label(), ())
            self.leave(("ret", None if kind == "void" else self.operand({}, kind)))
        return (name, kind, name != "main", tuple(self.blocks))

    def recur(self, env, kinds):
        """Call the function itself, if a byte counts down, and return what it gives."""
        numbers = [operand for operand in env.get("i8", []) + env.get("i32", []) if operand[0] == "name"]
        if not numbers or kinds[0] == "ptr":
            return
        first = ("name", self.blocks[0][1][0][0] + len(kinds))
        again, over = self.new_label(), self.new_label()
        less = self.add("sub", kinds[0], (first, ("int", kinds[0], 1)), ())
        small = self.add("icmp", kinds[0], (first, ("int", kinds[0], 6)), ("ult",))
        some = self.add("icmp", kinds[0], (first, ("int", kinds[0], 0)), ("ne",))
        both = self.add("and", "i1", (small, some), ())
        self.leave(("condbr", both, (again, ()), (over, ())))
        self.begin(again, ())
        args = (less,) + tuple(self.operand(env, its) for its in kinds[1:])
        name = -1 if self.kind == "void" else self.fresh()
        self.body.append((name, "call", self.kind, args, ("round",), self.spot()))
        self.leave(("ret", None if name == -1 else ("name", name)))
        self.begin(over, ())

    def fresh(self):
        self.names += 1
        return self.names - 1

    def new_label(self):
        self.labels += 1
        return self.labels - 1

    def begin(self, label, params):
        self.label, self.params, self.body = label, params, []

    def leave(self, end):
        self.blocks.append((self.label, self.params, tuple(self.body), end))

    def add(self, op, kind, operands, data, place=-1):
        """Add an instruction and return its result."""
        name = self.fresh()
        self.body.append((name, op, kind, tuple(operands), data, place))
        return ("name", name)

    def operand(self, env, kind):
        rnd = self.rnd
        if env.get(kind) and rnd.random() < 0.8:
            return rnd.choice(env[kind][-6:])
        if kind != "ptr":
            return ("int", kind, some_value(rnd, kind))
        if self.globals and rnd.random() < 0.8:
            return ("global", rnd.choice(self.globals)[0])
        return ("null",)

    def alloca(self, env):
        size = self.rnd.choice((4, 8, 8, 16, 16))
        pointer = self.add("alloca", "ptr", (), (size,))
        self.objects[pointer] = size
        env.setdefault("ptr", []).append(pointer)
        for _ in range(self.rnd.randrange(3)):
            offset = self.rnd.choice((0, 1, 4, 8))
            part = self.add("gep", "ptr", (pointer,), (offset,))
            if self.rnd.random() < 0.5:
                env["ptr"].append(part)
            self.objects[part] = size - offset
        if self.rnd.random() < 0.5:
            # A pointer that is used for loads and stores alone.
            env["ptr"].remove(pointer)

    def write(self, env, depth):
        for _ in range(self.rnd.randrange(1, self.statements + 1)):
            word = self.rnd.choice(("value",) * 6 + ("access",) * 6 + ("put", "get", "call", "free", "kill", "divide") + ("if", "loop", "switch") * 2)
            if word in ("if", "loop", "switch"):
                if depth > 0:
                    getattr(self, word + "_part")(env, depth - 1)
            else:
                getattr(self, word)(env)

    def value(self, env):
        rnd = self.rnd
        earlier = [row for row in self.body if row[0] != -1 and row[5] == -1 and row[1] != "alloca"]
        if earlier and rnd.random() < 0.2:
            row = rnd.choice(earlier)
            env.setdefault("i1" if row[1] == "icmp" else row[2], []).append(self.add(*row[1:5]))
            return
        kind = rnd.choice(("i1", "i8", "i8", "i32", "i64"))
        word = rnd.choice(("binary",) * 4 + ("icmp", "icmp", "select", "cast", "cast", "gep"))
        if word == "binary":
            result = self.add(rnd.choice(BINARIES), kind, (self.operand(env, kind), self.operand(env, kind)), ())
        elif word == "icmp":
            its, kind = rnd.choice((("i8", "i1"), ("i32", "i1"), ("ptr", "i1"), ("i1", "i1")))
            predicate = rnd.choice(PREDICATES if its != "ptr" else ("eq", "ne"))
            result = self.add("icmp", its, (self.operand(env, its), self.operand(env, its)), (predicate,))
        elif word == "select":
            kind = rnd.choice(KINDS)
            result = self.add("select", kind, (self.operand(env, "i1"), self.operand(env, kind), self.operand(env, kind)), ())
        elif word == "cast":
            old, kind = rnd.choice((("i8", "i32"), ("i32", "i8"), ("i1", "i8"), ("i32", "i64"), ("i64", "i32"), ("i8", "i1")))
            op = "trunc" if WIDTHS[old] > WIDTHS[kind] else rnd.choice(("zext", "sext"))
            result = self.add(op, kind, (self.operand(env, old),), ())
        else:
            kind = "ptr"
            count = rnd.choice((0, 0, 1))
            data = (rnd.choice((0, 1, 4, 8)),) + (1,) * count
            result = self.add("gep", "ptr", (self.operand(env, "ptr"),) + tuple(self.operand(env, "i64") for _ in range(count)), data)
        env.setdefault(kind, []).append(result)

    def divide(self, env):
        kind = self.rnd.choice(("i8", "i32"))
        divisor = self.operand(env, kind) if self.rnd.random() < 0.3 else ("int", kind, self.rnd.choice((1, 2, 3, 7, 8)))
        result = self.add(self.rnd.choice(DIVISIONS), kind, (self.operand(env, kind), divisor), (), self.spot())
        env.setdefault(kind, []).append(result)

    def pointer(self, env, kind):
        """Return a pointer that often can be accessed as a kind."""
        fitting = [pointer for pointer, size in self.objects.items() if size >= SIZES[kind]]
        if fitting and self.rnd.random() < 0.8:
            return self.rnd.choice(fitting)
        if self.globals and self.rnd.random() < 0.8:
            return ("global", self.rnd.choice(self.globals)[0])
        return self.operand(env, "ptr")

    def access(self, env):
        kind = self.rnd.choice(("i8", "i8", "i32", "i32", "i64", "i1", "ptr"))
        pointer = self.pointer(env, kind)
        earlier = [row for row in self.body if row[1] in ("load", "store")]
        if earlier and self.rnd.random() < 0.35:
            # Store to the same place again, often what stands there.
            _, op, kind, operands, _, _ = self.rnd.choice(earlier[-2:])
            value = ("name", earlier[-1][0]) if op == "load" else operands[0]
            if op == "load" and earlier[-1][1:4] != ("load", kind, operands) or self.rnd.random() < 0.4:
                value = self.operand(env, kind)
            self.body.append((-1, "store", kind, (value, operands[-1]), (), self.spot()))
            return
        if self.rnd.random() < 0.5:
            self.body.append((-1, "store", kind, (self.operand(env, kind), pointer), (), self.spot()))
        else:
            env.setdefault(kind, []).append(self.add("load", kind, (pointer,), (), self.spot()))

    def get(self, env):
        env.setdefault("i32", []).append(self.add("call", "i32", (), ("get",), self.spot()))

    def put(self, env):
        self.body.append((-1, "call", "void", (self.operand(env, "i32"),), ("put",), self.spot()))

    def call(self, env):
        rnd = self.rnd
        names = sorted(self.signatures) + ["malloc", "exit"]
        callee = rnd.choice(names)
        if callee == "exit" and rnd.random() < 0.7:
            return
        told = {"malloc": (("i64",), "ptr"), "exit": (("i32",), "void")}
        params, kind = told.get(callee) or self.signatures[callee]
        if callee == "malloc":
            args = (("int", "i64", rnd.choice((8, 16, 16, 0))),)
        else:
            args = tuple(self.operand(env, its) for its in params)
        name = -1 if kind == "void" else self.fresh()
        self.body.append((name, "call", kind, args, (callee,), self.spot()))
        if name != -1:
            env.setdefault(kind, []).append(("name", name))
        if callee == "malloc":
            self.objects[("name", name)] = 8

    def free(self, env):
        if self.rnd.random() < 0.3:
            self.body.append((-1, "call", "void", (self.operand(env, "ptr"),), ("free",), self.spot()))

    def kill(self, env):
        if self.objects and self.rnd.random() < 0.3:
            self.body.append((-1, "kill", "void", (self.rnd.choice(sorted(self.objects)),), (), -1))

    def inner(self, env, depth):
        """Write statements with what is known so far; return what is known behind them."""
        known = {kind: list(row) for kind, row in env.items()}
        objects = dict(self.objects)
        self.write(known, depth)
        self.objects = objects
        return known

    def if_part(self, env, depth):
        condition = self.operand(env, "i1")
        kinds = [self.rnd.choice(KINDS) for _ in range(self.rnd.randrange(3))]
        first, second, behind = self.new_label(), self.new_label(), self.new_label()
        self.leave(("condbr", condition, (first, ()), (second, ())))
        for label in (first, second):
            self.begin(label, ())
            known = self.inner(env, depth)
            self.leave(("br", (behind, tuple(self.operand(known, kind) for kind in kinds))))
        self.join(behind, kinds, env)

    def join(self, label, kinds, env):
        params = tuple((self.fresh(), kind) for kind in kinds)
        self.begin(label, params)
        for name, kind in params:
            env.setdefault(kind, []).append(("name", name))

    def switch_part(self, env, depth):
        kind = self.rnd.choice(("i8", "i32"))
        kinds = [self.rnd.choice(KINDS) for _ in range(self.rnd.randrange(2))]
        behind = self.new_label()
        values = sorted({self.rnd.choice((0, 1, 2, 65)) for _ in range(self.rnd.randrange(3))})
        inner = [self.new_label() for _ in values]
        args = [() if self.rnd.random() < 0.5 else None for _ in inner]
        cases = []
        for value, label, told in zip(values, inner, args):
            cases.append((value, (label, ()) if told == () else (behind, tuple(self.operand(env, its) for its in kinds))))
        self.leave(("switch", self.operand(env, kind), tuple(cases), (behind, tuple(self.operand(env, its) for its in kinds))))
        for label, told in zip(inner, args):
            if told == ():
                self.begin(label, ())
                known = self.inner(env, depth)
                self.leave(("br", (behind, tuple(self.operand(known, its) for its in kinds))))
        self.join(behind, kinds, env)

    def loop_part(self, env, depth):
        rnd = self.rnd
        kind = rnd.choice(("i8", "i32"))
        kinds = [kind, kind] + [rnd.choice(("i8", "i32", "ptr")) for _ in range(rnd.randrange(3))]
        header, body, behind = self.new_label(), self.new_label(), self.new_label()
        start = (("int", kind, 0), ("int", kind, rnd.randrange(5))) + tuple(self.operand(env, its) for its in kinds[2:])
        self.leave(("br", (header, start)))
        self.join(header, kinds, env)
        params = self.params
        counter = ("name", params[0][0])
        goes_on = self.add("icmp", kind, (counter, ("int", kind, rnd.choice((1, 2, 3, 5)))), (rnd.choice(("ult", "slt", "ne")),))
        self.leave(("condbr", goes_on, (body, ()), (behind, ())))
        self.begin(body, ())
        known = self.inner(env, depth)
        raised = self.add("add", kind, (counter, ("int", kind, 1)), ())
        other = self.add("add", kind, (("name", params[1][0]), ("int", kind, rnd.choice((2, 3, 8)))), ())
        rest = tuple(self.operand(known, its) if rnd.random() < 0.7 else ("name", name) for name, its in params[2:])
        self.leave(("br", (header, (raised, other) + rest)))
        self.begin(behind, ())


def renumbered(function, old, rnd):
    """Return a function with other names and labels, whose calls of the old function are calls of itself."""
    from burnish.records import canonical, map_end, map_instruction, map_labels
    name, kind, internal, blocks = canonical(function)
    shift = rnd.randrange(1, 9)

    def moved(operand):
        return ("name", operand[1] + shift) if operand[0] == "name" else operand

    changed = []
    for label, params, body, end in blocks:
        rows = []
        for row in body:
            row = (row[0] + shift if row[0] >= 0 else -1,) + map_instruction(row, moved)[1:]
            rows.append(row[:4] + ((name,),) + row[5:] if row[4] == (old,) else row)
        changed.append((label + shift, tuple((n + shift, its) for n, its in params), tuple(rows),
                        map_labels(map_end(end, moved), lambda label: label + shift)))
    return (name, kind, internal, tuple(changed))
