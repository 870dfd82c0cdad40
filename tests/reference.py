"""A slow interpreter for the tests, written from [4.1] to [4.14] and apart from the package.

A state here is a dict; `frozen` gives it in the form of [4.6].
"""

import copy

SIZES = {"i1": 1, "i8": 1, "i16": 2, "i32": 4, "i64": 8, "ptr": 8}
WIDTHS = {"i1": 1, "i8": 8, "i16": 16, "i32": 32, "i64": 64}
RESULT = {"icmp": "i1", "alloca": "ptr", "gep": "ptr"}


class Trap(Exception):
    pass


def signed(w, x):
    return x - 2 ** w if x >= 2 ** (w - 1) else x


def arithmetic(op, w, x, y):
    if op in ("udiv", "sdiv", "urem", "srem"):
        if y == 0:
            raise Trap("divide")
        a, b = (x, y) if op[0] == "u" else (signed(w, x), signed(w, y))
        q = abs(a) // abs(b) * (1 if (a < 0) == (b < 0) else -1)
        return (q if op.endswith("div") else a - b * q) % 2 ** w
    if op == "ashr":
        return signed(w, x) // 2 ** min(y, w) % 2 ** w
    if op in ("shl", "lshr"):
        if y >= w:
            return 0
        return x * 2 ** y % 2 ** w if op == "shl" else x // 2 ** y
    return {"add": x + y, "sub": x - y, "mul": x * y, "and": x & y, "or": x | y, "xor": x ^ y}[op] % 2 ** w


def comparison(predicate, w, x, y):
    if predicate[0] == "s":
        x, y = signed(w, x), signed(w, y)
    return int({"eq": x == y, "ne": x != y, "lt": x < y, "le": x <= y, "gt": x > y, "ge": x >= y}[predicate[-2:]])


class Interpreter:

    def __init__(self, module, data):
        self.module, self.data = module, list(data)
        self.memory = [["constant" if constant else "global", True, list(values)] for _, constant, values in module[0]]
        self.frames = [["main", self.function("main")[3][0][0], 0, {}, []]]
        self.taken, self.out, self.end = 0, [], ("none",)

    def frozen(self):
        frames = tuple((f, label, at, dict(values), tuple(owned)) for f, label, at, values, owned in self.frames)
        memory = tuple((sort, alive, tuple(cells)) for sort, alive, cells in self.memory)
        return (frames, memory, self.taken, tuple(self.out), self.end)

    def function(self, name):
        return [function for function in self.module[1] if function[0] == name][0]

    def block(self, name, label):
        return [block for block in self.function(name)[3] if block[0] == label][0]

    def kind(self, operand):
        if operand[0] != "name":
            return operand[1]
        for _, params, body, _ in self.function(self.frames[-1][0])[3]:
            for name, kind in params:
                if name == operand[1]:
                    return kind
            for row in body:
                if row[0] == operand[1]:
                    return RESULT.get(row[1], row[2])

    def value(self, operand):
        if operand[0] == "int":
            return operand[2]
        if operand[0] == "name":
            return self.frames[-1][3][operand[1]]
        if operand[0] == "null":
            return ("null",)
        return ("at", [record[0] for record in self.module[0]].index(operand[1]), 0)

    def step(self):
        """Take a step, but leave everything as it was but for the end, if it ends the run."""
        saved = copy.deepcopy((self.memory, self.frames, self.taken, self.out))
        frame = self.frames[-1]
        _, _, body, end = self.block(frame[0], frame[1])
        place = body[frame[2]][5] if frame[2] < len(body) else end[-1]
        try:
            if frame[2] < len(body):
                frame[2] += 1
                self.execute(frame, body[frame[2] - 1])
            else:
                self.leave(frame, end)
        except Trap as trap:
            self.end = ("trap", str(trap), place)
        if self.end != ("none",):
            self.memory, self.frames, self.taken, self.out = saved

    def cells(self, pointer, size):
        if pointer == ("null",):
            raise Trap("memory")
        _, alive, cells = self.memory[pointer[1]]
        if not alive or pointer[2] + size > len(cells):
            raise Trap("memory")
        return cells

    def load(self, kind, pointer):
        size = SIZES[kind]
        row = self.cells(pointer, size)[pointer[2]:pointer[2] + size]
        if kind != "ptr":
            if any(isinstance(cell, tuple) for cell in row):
                raise Trap("memory")
            return sum(cell * 256 ** k for k, cell in enumerate(row)) % 2 ** WIDTHS[kind]
        if row == [0] * 8:
            return ("null",)
        if all(isinstance(cell, tuple) and cell[0] == row[0][0] and cell[1] == k for k, cell in enumerate(row)):
            return row[0][0]
        raise Trap("memory")

    def store(self, kind, value, pointer):
        size = SIZES[kind]
        cells = self.cells(pointer, size)
        if self.memory[pointer[1]][0] == "constant":
            raise Trap("memory")
        for k in range(size):
            if kind != "ptr":
                cells[pointer[2] + k] = value // 256 ** k % 256
            else:
                cells[pointer[2] + k] = 0 if value == ("null",) else (value, k)

    def add(self, sort, size):
        self.memory.append([sort, True, [0] * size])
        return ("at", len(self.memory) - 1, 0)

    def execute(self, frame, row):
        name, op, kind, operands, data, _ = row
        args = [self.value(operand) for operand in operands]
        result = None
        if op == "icmp":
            w = 1 if kind == "ptr" else WIDTHS[kind]
            result = int((args[0] == args[1]) == (data[0] == "eq")) if kind == "ptr" else comparison(data[0], w, *args)
        elif op == "select":
            result = args[1] if args[0] == 1 else args[2]
        elif op == "trunc":
            result = args[0] % 2 ** WIDTHS[kind]
        elif op == "zext":
            result = args[0]
        elif op == "sext":
            result = signed(WIDTHS[self.kind(operands[0])], args[0]) % 2 ** WIDTHS[kind]
        elif op == "alloca":
            result = self.add("stack", data[0])
            frame[4].append(result[1])
        elif op == "gep":
            result = args[0]
            if result != ("null",):
                amount = data[0] + sum(i * s for i, s in zip(args[1:], data[1:]))
                result = ("at", result[1], (result[2] + amount) % 2 ** 64)
        elif op == "load":
            result = self.load(kind, args[0])
        elif op == "store":
            self.store(kind, args[0], args[1])
        elif op == "kill":
            self.finish(args[0], "stack")
        elif op == "call":
            result = self.call(data[0], args)
        else:
            result = arithmetic(op, WIDTHS[kind], *args)
        if result is not None:
            frame[3][name] = result

    def finish(self, pointer, sort):
        """End the life of an object that a pointer leads to the beginning of; tell whether that was done."""
        if pointer == ("null",) or pointer[2] != 0 or self.memory[pointer[1]][:2] != [sort, True]:
            return False
        self.memory[pointer[1]][1] = False
        return True

    def call(self, callee, args):
        if callee == "get":
            if self.taken == len(self.data):
                return 2 ** 32 - 1
            self.taken += 1
            return self.data[self.taken - 1]
        if callee == "put":
            self.out.append(args[0] % 256)
        elif callee == "exit":
            self.end = ("exit", args[0] % 256)
        elif callee == "malloc":
            return self.add("heap", args[0]) if 1 <= args[0] <= 4096 else ("null",)
        elif callee == "free":
            if args[0] != ("null",) and not self.finish(args[0], "heap"):
                raise Trap("memory")
        else:
            label, params, _, _ = self.function(callee)[3][0]
            self.frames.append([callee, label, 0, {n: arg for (n, _), arg in zip(params, args)}, []])
        return None

    def leave(self, frame, end):
        if end[0] == "stop":
            raise Trap("stop")
        if end[0] == "ret":
            self.give_back(end[1])
            return
        edge = end[1]
        if end[0] == "condbr":
            edge = end[2] if self.value(end[1]) == 1 else end[3]
        elif end[0] == "switch":
            value = self.value(end[1])
            edge = ([edge for case, edge in end[2] if case == value] + [end[3]])[0]
        args = [self.value(operand) for operand in edge[1]]
        frame[1], frame[2] = edge[0], 0
        frame[3].update({n: arg for (n, _), arg in zip(self.block(frame[0], edge[0])[1], args)})

    def give_back(self, operand):
        value = None if operand is None else self.value(operand)
        if len(self.frames) == 1:
            self.end = ("exit", value % 256)
            return
        for number in self.frames.pop()[4]:
            self.memory[number][1] = False
        frame = self.frames[-1]
        name = self.block(frame[0], frame[1])[2][frame[2] - 1][0]
        if value is not None:
            frame[3][name] = value
