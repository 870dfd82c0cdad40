"""Random steps for a module: most of them have the right shape and are nearly right."""

from burnish.check import STEPS
from burnish.demand import solve_demand
from burnish.edits import block_names, incoming
from burnish.effects import solve_effects
from burnish.equations import solve_equations
from burnish.graph import graph_of
from burnish.linear import solve_linear
from burnish.loops import loops
from burnish.memfacts import solve_memory
from burnish.records import builtin, edges, end_operands, find_block, new_label, new_name, result_kind
from burnish.rules import Book, first_ranged, first_rewrite
from burnish.scopes import kinds_of
from burnish.solve import solve_values
from burnish.values import Knowledge

PURE = ("add", "sub", "mul", "and", "or", "xor", "shl", "lshr", "ashr", "icmp", "select", "trunc", "zext", "sext", "gep")


class Proposer:
    """Proposes steps for one module."""

    def __init__(self, rnd, module, *, honest=0.9):
        self.rnd = rnd
        self.module = module
        self.honest = honest
        self.tables = {}

    def words(self):
        return sorted(STEPS)

    def propose(self, word):
        """Return a step of this word, or None where nothing suggests itself."""
        self.function = self.rnd.choice(self.module[1])
        self.name = self.function[0]
        self.blocks = {block[0]: block for block in self.function[3]}
        self.labels = [block[0] for block in self.function[3]]
        self.kinds = kinds_of(self.function)
        rest = getattr(self, "of_" + word)()
        return None if rest is None else (word,) + rest

    def told(self, key, solve):
        """Return a table, solved once."""
        if key not in self.tables:
            self.tables[key] = solve()
        return self.tables[key]

    def values(self):
        table = self.told(("values", self.name), lambda: solve_values(self.module, self.function))
        if self.rnd.random() < self.honest:
            return table
        return self.rnd.choice((((), (), ()), self.weaker(table), self.stronger(table)))

    def weaker(self, table):
        """Return a value table without some of its facts."""
        return (table[0], table[1], tuple(fact for fact in table[2] if self.rnd.random() < 0.7))

    def stronger(self, table):
        """Return a value table with a fact more, or a name less that escapes."""
        facts = dict(table[2])
        name = self.any_name()
        if name is not None:
            facts[name] = () if self.kinds[name] == "ptr" else (self.rnd.randrange(2),) * 2 + (0, 0)
        escaped = tuple(n for n in table[1] if self.rnd.random() < 0.7)
        return (table[0], escaped, tuple(sorted(facts.items())))

    def effects(self):
        table = self.told("effects", lambda: solve_effects(self.module))
        if self.rnd.random() < self.honest:
            return table
        return tuple((name, tuple(word for word in row if self.rnd.random() < 0.6)) for name, row in table)

    def facts(self):
        def solve():
            values = solve_values(self.module, self.function)
            effects = solve_effects(self.module)
            return (values, effects, solve_memory(self.module, self.function, values, effects))
        triple = self.told(("facts", self.name), solve)
        if self.rnd.random() < self.honest:
            return triple
        return self.rnd.choice(((self.weaker(triple[0]),) + triple[1:], (triple[0], self.effects(), triple[2]), triple[:2] + ((),),
                                (self.stronger(triple[0]),) + triple[1:]))

    def any_name(self):
        return self.rnd.choice(sorted(self.kinds)) if self.kinds else None

    def any_place(self, test=None):
        """Return (label, k) of an instruction."""
        places = [(label, k) for label, block in self.blocks.items() for k, row in enumerate(block[2]) if test is None or test(row)]
        return self.rnd.choice(places) if places else None

    def any_gap(self):
        label = self.rnd.choice(self.labels)
        return label, self.rnd.randrange(len(self.blocks[label][2]) + 1)

    def operand(self, kind):
        names = [name for name, its in self.kinds.items() if its == kind]
        if names and self.rnd.random() < 0.85:
            return ("name", self.rnd.choice(names))
        return ("null",) if kind == "ptr" else ("int", kind, self.rnd.randrange(2))

    def fresh(self, count):
        first = new_name(self.function) + self.rnd.choice((0, 0, 3))
        return tuple(range(first, first + count))

    def fresh_labels(self, count):
        first = new_label(self.function) + self.rnd.choice((0, 0, 2))
        return tuple(range(first, first + count))

    def ends(self, *words):
        return [label for label, block in self.blocks.items() if block[3][0] in words]

    def pick(self, row):
        return self.rnd.choice(row) if row else None

    def some(self, row):
        """Return some of the items of a row, at least one, in order."""
        kept = tuple(item for item in row if self.rnd.random() < 0.6)
        return kept or tuple(row[:1])

    def of_prune(self):
        return (self.name,)

    def of_fold_end(self):
        label = self.pick(self.ends("condbr", "switch"))
        return None if label is None else (self.name, label)

    def of_drop_case(self):
        label = self.pick(self.ends("switch"))
        return None if label is None else (self.name, label, self.rnd.randrange(3))

    def of_as_condbr(self):
        label = self.pick(self.ends("switch"))
        return None if label is None else (self.name, label) + self.fresh(1)

    def of_swap(self):
        label = self.pick(self.ends("condbr"))
        return None if label is None else (self.name, label)

    def of_join(self):
        label = self.pick(self.ends("br"))
        return None if label is None else (self.name, label)

    def of_cut(self):
        return (self.name,) + self.any_gap() + self.fresh_labels(1)

    def of_skip(self):
        label = self.pick(self.ends("br", "condbr", "switch"))
        return None if label is None else (self.name, label, self.rnd.randrange(2))

    def of_gather(self):
        label = self.pick(self.labels[1:])
        if label is None or not incoming(self.function, label):
            return None
        return (self.name,) + self.fresh_labels(1) + (self.fresh(len(self.blocks[label][1])), self.some(incoming(self.function, label)))

    def of_copy(self):
        label = self.pick(self.labels[1:])
        if label is None or not incoming(self.function, label):
            return None
        return (self.name, label) + self.fresh_labels(1) + (self.fresh(len(block_names(self.blocks[label]))), self.some(incoming(self.function, label)))

    def of_copy_region(self):
        found = loops(graph_of(self.function))
        if not found:
            return None
        header, labels = self.rnd.choice(found)[:2]
        if self.rnd.random() < 0.3:
            labels = tuple(sorted(set(labels) | {self.rnd.choice(self.labels)}))
        places = [place for place in incoming(self.function, header) if place[0] not in labels]
        names = sum(len(block_names(self.blocks[label])) for label in labels)
        return (self.name, header, labels, self.fresh_labels(len(labels)), self.fresh(names), self.some(places))

    def of_twins(self):
        pairs = self.told(("twins", self.name), self.twin_pairs)
        if not pairs:
            return None
        into = [(place, x) for x, _ in pairs for place in incoming(self.function, x)]
        if not into:
            return None
        place, x = self.rnd.choice(into)
        return (self.name, tuple(sorted(pairs)) if self.rnd.random() < 0.8 else self.some(pairs)) + place + (
            self.rnd.choice([y for u, y in pairs if u == x]),)

    def twin_pairs(self):
        """Return pairs of blocks that look alike."""
        def look(block):
            return ([kind for _, kind in block[1]], [row[1:3] + row[4:] for row in block[2]], block[3][0], len(edges(block[3])))
        found = []
        for x in self.labels[1:]:
            for y in self.labels[1:]:
                if x != y and look(self.blocks[x]) == look(self.blocks[y]):
                    found.append((x, y))
        return sorted(found)

    def of_add_param(self):
        label = self.pick(self.labels[1:])
        if label is None:
            return None
        kind = self.rnd.choice(sorted(set(self.kinds.values())) or ["i8"])
        if self.rnd.random() < 0.5:
            operands = (self.operand(kind),) * len(incoming(self.function, label))
        else:
            operands = tuple(self.operand(kind) for _ in incoming(self.function, label))
        return (self.name, label) + self.fresh(1) + (kind, operands)

    def passed(self, label, i):
        return [edges(self.blocks[source][3])[slot][1][i] for source, slot in incoming(self.function, label)]

    def of_same_param(self):
        label = self.pick([label for label in self.labels if self.blocks[label][1]])
        if label is None:
            return None
        i = self.rnd.randrange(len(self.blocks[label][1]))
        told = self.passed(label, i) or [self.operand(self.blocks[label][1][i][1])]
        return (self.name, label, i, self.rnd.choice(told))

    def of_use_params(self):
        rows = [(label, i) for label in self.labels[1:] for i in range(len(self.blocks[label][1]))]
        if not rows:
            return None
        if self.rnd.random() < 0.5:
            return (self.name, (self.rnd.choice(rows),))
        return (self.name, tuple(sorted(self.rnd.sample(rows, min(len(rows), 2)))))

    def of_fork(self):
        label = self.pick(self.ends("br"))
        return None if label is None else (self.name, label, self.operand("i1"))

    def of_edge_value(self):
        label = self.pick(self.ends("condbr", "switch"))
        return None if label is None else (self.name, label, self.rnd.randrange(3))

    def of_rename(self):
        labels = self.rnd.sample(range(3000), len(self.labels))
        names = self.rnd.sample(range(30000), len(self.kinds))
        return (self.name, tuple(zip(sorted(self.labels), labels)), tuple(zip(sorted(self.kinds), names)))

    def of_insert(self):
        op = self.rnd.choice(("add", "xor", "shl", "icmp", "select", "zext", "trunc", "gep"))
        kind = self.rnd.choice(("i8", "i32"))
        name = self.fresh(1)[0]
        rows = {
            "icmp": (name, op, kind, (self.operand(kind), self.operand(kind)), ("ult",), -1),
            "select": (name, op, kind, (self.operand("i1"), self.operand(kind), self.operand(kind)), (), -1),
            "zext": (name, op, kind, (self.operand("i1"),), (), -1),
            "trunc": (name, op, "i8", (self.operand("i32"),), (), -1),
            "gep": (name, op, "ptr", (self.operand("ptr"),), (4,), -1),
        }
        row = rows.get(op, (name, op, kind, (self.operand(kind), self.operand(kind)), (), -1))
        return (self.name,) + self.any_gap() + (row,)

    def unused(self):
        used = set()
        for block in self.function[3]:
            for row in block[2]:
                used.update(row[3])
            used.update(end_operands(block[3]))
        return [name for name in sorted(self.kinds) if ("name", name) not in used]

    def of_drop_names(self):
        unused = self.unused()
        if self.rnd.random() < 0.8 and unused:
            return (self.name, (self.rnd.choice(unused),))
        return (self.name, self.some(sorted(self.kinds))) if self.kinds else None

    def of_delete_call(self):
        place = self.any_place(lambda row: row[1] == "call" and builtin(row[4][0]) is None)
        return None if place is None else (self.name, self.effects()) + place

    def of_delete_load(self):
        unused = self.unused()
        place = self.any_place(lambda row: row[1] == "load" and row[0] in unused)
        return None if place is None else (self.name, self.facts(), (place,))

    def alike(self):
        """Return pairs of places of instructions that agree."""
        rows = [(label, k, row) for label, block in self.blocks.items() for k, row in enumerate(block[2]) if row[0] != -1]
        return [(a, b) for a in rows for b in rows if a is not b and a[2][1:5] == b[2][1:5]]

    def of_same(self):
        pair = self.pick(self.alike())
        return None if pair is None else (self.name,) + pair[0][:2] + pair[1][:2]

    def of_prefer(self):
        pair = self.pick(self.alike())
        return None if pair is None else (self.name, pair[0][2][0], pair[1][2][0])

    def of_move(self):
        place = self.any_place(lambda row: row[1] in PURE)
        return None if place is None else (self.name,) + place + self.any_gap()

    def of_rule(self):
        book = Book(self.function)
        found = []
        for label, block in self.blocks.items():
            for k, row in enumerate(block[2]):
                told = first_rewrite(book, row, 0)
                if told is not None:
                    found.append((label, k, told[0], ()))
        told = self.pick(found)
        return None if told is None else (self.name,) + told

    def of_ranged_rule(self):
        values = self.values()
        try:
            knowledge = Knowledge(self.function, values)
        except (ValueError, TypeError):
            return None
        found = []
        for label, block in self.blocks.items():
            for k, row in enumerate(block[2]):
                told = first_ranged(knowledge, row, 0)
                if told is not None:
                    found.append((label, k, told[0], ()))
        told = self.pick(found)
        return None if told is None else (self.name, values) + told

    def of_ranges(self):
        values = self.values()
        names = [name for name, fact in values[2] if self.kinds[name] != "ptr" and len(fact) == 4 and fact[0] == fact[1]]
        return (self.name, values, self.some(names)) if names else None

    def demand(self):
        table = self.told(("demand", self.name), lambda: solve_demand(self.function, solve_values(self.module, self.function)))
        if self.rnd.random() < self.honest:
            return table
        return tuple((name, mask & self.rnd.choice((mask, mask, 1))) for name, mask in table)

    def of_demanded(self):
        place = self.any_place(lambda row: row[1] in ("and", "or", "xor") and row[3][1][0] == "int")
        return None if place is None else (self.name, self.values(), self.demand()) + place

    def of_undemanded(self):
        demand = self.demand()
        names = [name for name, mask in demand if mask == 0 and self.kinds[name] != "ptr"]
        return (self.name, self.values(), demand, self.some(names)) if names else None

    def of_equal(self):
        table = self.told(("equations", self.name), lambda: solve_equations(self.function))
        if self.rnd.random() > self.honest:
            name, other = self.any_name(), self.any_name()
            table = ((min(name, other), max(name, other)),) if name != other else ()
        pairs = [(row[1], row[0]) for row in table] + [(row[0], row[-1]) for row in table]
        return (self.name, table, (self.rnd.choice(pairs),)) if pairs else None

    def of_linear(self):
        place = self.any_place(lambda row: row[1] in PURE and result_kind(row) != "ptr")
        if place is None:
            return None
        values = self.values()
        table = self.told(("linear", self.name), lambda: solve_linear(self.function, solve_values(self.module, self.function)))
        kind = result_kind(self.blocks[place[0]][2][place[1]])
        return (self.name, values, table) + place + (self.operand(kind),)

    def places_of(self, op):
        return [(label, k) for label in sorted(self.blocks) for k, row in enumerate(self.blocks[label][2]) if row[1] == op]

    def of_forward(self):
        place = self.pick(self.places_of("load"))
        return None if place is None else (self.name, self.facts(), (place,))

    def of_same_store(self):
        place = self.pick(self.places_of("store"))
        return None if place is None else (self.name, self.facts(), (place,))

    def of_unread_store(self):
        place = self.pick(self.places_of("store"))
        return None if place is None else (self.name, self.facts(), (place,))

    def of_insert_load(self):
        kind = self.rnd.choice(("i8", "i32", "ptr"))
        return (self.name, self.facts()) + self.any_gap() + ((self.fresh(1)[0], "load", kind, (self.operand("ptr"),), (), 7),)

    def of_dead_store(self):
        pairs = []
        for label, block in self.blocks.items():
            stores = [k for k, row in enumerate(block[2]) if row[1] == "store"]
            pairs += [(label, k, j) for k in stores for j in stores if k < j and block[2][k][3][1] == block[2][j][3][1]]
        told = self.pick(pairs)
        return None if told is None else (self.name, self.facts()) + told

    def of_split_alloca(self):
        place = self.any_place(lambda row: row[1] == "alloca")
        if place is None:
            return None
        size = self.blocks[place[0]][2][place[1]][4][0]
        first = self.rnd.choice((1, 4, 8))
        return (self.name,) + place + ((first, size - first), self.fresh(2))

    def of_drop_kills(self):
        place = self.any_place(lambda row: row[1] == "alloca")
        return None if place is None else (self.name, self.blocks[place[0]][2][place[1]][0])

    def of_constant_load(self):
        place = self.pick(self.places_of("load"))
        return None if place is None else (self.name,) + place

    def of_fix_global(self):
        return (self.rnd.choice(self.module[0])[0],) if self.module[0] else None

    def of_drop_global(self):
        return (self.rnd.choice(self.module[0])[0],) if self.module[0] else None

    def of_inline(self):
        place = self.any_place(lambda row: row[1] == "call" and builtin(row[4][0]) is None)
        if place is None:
            return None
        callee = [function for function in self.module[1] if function[0] == self.blocks[place[0]][2][place[1]][4][0]][0]
        labels = self.fresh_labels(1 + len(callee[3]))
        count = sum(len(block_names(block)) for block in callee[3]) - len(callee[3][0][1]) + (callee[1] != "void")
        return (self.name,) + place + (labels[0], labels[1:], self.fresh(count))

    def of_split_entry(self):
        return (self.name,) + self.fresh_labels(1) + (self.fresh(len(self.function[3][0][1])),)

    def of_tail(self):
        label = self.pick([label for label, block in self.blocks.items() if block[2] and block[2][-1][4] == (self.name,)])
        return None if label is None else (self.name, label)

    def of_drop_argument(self):
        return (self.name, self.rnd.randrange(2))

    def of_same_argument(self):
        i = self.rnd.randrange(2)
        calls = [row for function in self.module[1] for block in function[3] for row in block[2] if row[4] == (self.name,)]
        told = [row[3][i] for row in calls if i < len(row[3])]
        return (self.name, i, self.rnd.choice(told)) if told else None

    def of_drop_result(self):
        return (self.name,)

    def of_drop_function(self):
        return (self.name,)

    def of_same_function(self):
        names = [function[0] for function in self.module[1]]
        twins = [(name, name[:-1]) for name in names if name.endswith("2") and name[:-1] in names]
        if twins and self.rnd.random() < 0.8:
            pair = self.rnd.choice(twins)
            return pair if self.rnd.random() < 0.5 else pair[::-1]
        return (self.name, self.rnd.choice(names))


def block_of(module, name, label):
    """Return a block of a function of a module."""
    return find_block([function for function in module[1] if function[0] == name][0], label)
