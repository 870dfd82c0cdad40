"""Promises 6.6 to 6.8 and 6.10: value tables and when they hold."""

import copy
import random
import unittest

from burnish.faults import faults
from burnish.holding import holds_values
from burnish.lattice import full, normal, refine, single, transfer, union, within
from burnish.parse import parse_module
from burnish.records import edges, end_operands, result_kind
from burnish.run import Machine
from burnish.scopes import kinds_of, operand_kind
from burnish.values import apart, live_labels, range_of, sites_of
from burnish.words import opposite
from samples import BINARIES, DIVISIONS, WIDTHS, Maker

OUTSIDE = ("outside",)
NOTHING = ((), (), ())
INTEGER_OPS = BINARIES + DIVISIONS + ("icmp", "select", "trunc", "zext", "sext")
LOOP = parse_module("export main i32 { 0(): br 1(i8 0) 1($0 i8): $1 = icmp ult i8 $0, i8 10 condbr $1, 2($0), 3() "
                    "2($2 i8): $3 = add i8 $2, i8 1 br 1($3) 3(): ret i32 0 }")
LOOP_FACTS = ((0, (0, 10, 240, 0)), (2, (0, 9, 240, 0)), (3, (1, 10, 240, 0)))


def whole(value):
    return isinstance(value, int) and not isinstance(value, bool)


def rising(row):
    return list(row) == sorted(set(row))


class Slow:
    """A value table, looked at sentence by sentence."""

    def __init__(self, module, function, table):
        self.module, self.function, self.table = module, function, table
        self.kinds = kinds_of(function)
        self.rows = [row for block in function[3] for row in block[2]]
        self.own = {row[0] for row in self.rows if row[1] == "alloca" or row[1] == "call" and row[4][0] == "malloc"}
        self.blocks = {block[0]: block for block in function[3]}

    def has_form(self):
        table = self.table
        if not isinstance(table, tuple) or len(table) != 3 or not all(isinstance(part, tuple) for part in table):
            return False
        dead, escaped, facts = table
        for edge in dead:
            if not (isinstance(edge, tuple) and len(edge) == 2 and whole(edge[0]) and whole(edge[1]) and edge[0] in self.blocks
                    and 0 <= edge[1] < len(edges(self.blocks[edge[0]][3]))):
                return False
        if not all(whole(name) and name in self.own for name in escaped):
            return False
        if not all(isinstance(pair, tuple) and len(pair) == 2 and whole(pair[0]) and pair[0] in self.kinds for pair in facts):
            return False
        if not rising(dead) or not rising(escaped) or not rising([name for name, _ in facts]):
            return False
        return all(self.is_fact(self.kinds[name], fact) for name, fact in facts)

    def is_fact(self, kind, fact):
        if not isinstance(fact, tuple):
            return False
        if kind != "ptr":
            return len(fact) == 4 and all(whole(item) and 0 <= item < 2 ** WIDTHS[kind] for item in fact)
        for site in fact:
            if site == OUTSIDE:
                continue
            if not isinstance(site, tuple) or len(site) != 2:
                return False
            if site[0] == "at" and whole(site[1]) and site[1] in self.own:
                continue
            if site[0] == "global" and isinstance(site[1], str) and site[1] in [record[0] for record in self.module[0]]:
                continue
            return False
        return rising(fact)

    def fact(self, operand):
        kind = operand_kind(self.kinds, operand)
        if operand[0] == "int":
            return single(kind, operand[2])
        if operand[0] == "null":
            return ()
        if operand[0] == "global":
            return (operand,)
        return dict(self.table[2]).get(operand[1], (OUTSIDE,) if kind == "ptr" else full(kind))

    def live(self):
        found, waiting = set(), [self.function[3][0][0]]
        while waiting:
            label = waiting.pop()
            if label not in found:
                found.add(label)
                waiting += [to for k, (to, _) in enumerate(edges(self.blocks[label][3])) if (label, k) not in self.table[0]]
        return [block[0] for block in self.function[3] if block[0] in found]

    def result(self, row):
        """Return the range of an integer result."""
        _, op, kind, operands, data, _ = row
        if op not in INTEGER_OPS:
            return full(kind)
        kinds = [operand_kind(self.kinds, operand) for operand in operands]
        ranges = [None if its == "ptr" else self.fact(operand) for its, operand in zip(kinds, operands)]
        return transfer(op, kind, data, kinds, ranges)

    def result_sites(self, row):
        name, op, _, operands, _, _ = row
        if name in self.own:
            return (("at", name),)
        if op == "gep":
            return self.fact(operands[0])
        if op == "select":
            return self.fact(operands[1]) + self.fact(operands[2])
        return (OUTSIDE,)

    def along(self, label, slot):
        """Return None if an edge is shut, else a dict of ranges along it."""
        _, _, body, end = self.blocks[label]
        for row in body:
            if row[1] in INTEGER_OPS and result_kind(row) != "ptr" and self.result(row) is None:
                return None
        if end[0] == "condbr":
            fact = self.fact(end[1])
            if fact[0] == fact[1] and slot != 1 - fact[0]:
                return None
            return self.refined(end, slot)
        if end[0] == "switch":
            fact = self.fact(end[1])
            taken = [k for k, (value, _) in enumerate(end[2]) if value == fact[0]] + [len(end[2])]
            if fact[0] == fact[1] and slot != taken[0]:
                return None
        return {}

    def refined(self, end, slot):
        for row in self.rows:
            if end[1] == ("name", row[0]) and row[1] == "icmp" and row[2] != "ptr":
                x, y = row[3]
                told = refine(row[4][0] if slot == 0 else opposite(row[4][0]), row[2], self.fact(x), self.fact(y))
                return told and {y: told[1], x: told[0]}
        return {}

    def takes(self, name, sites):
        fact = self.fact(("name", name))
        covered = [site for site in sites if OUTSIDE in fact and (site[0] == "global" or site[1:] and site[1] in self.table[1])]
        return all(site in fact or site in covered for site in sites)

    def takes_argument(self, name, kind, operand, along):
        if kind == "ptr":
            return self.takes(name, self.fact(operand))
        bounds = along.get(operand, self.fact(operand)) if operand[0] == "name" else self.fact(operand)
        return within(bounds, self.fact(("name", name)))

    def holds(self):
        if not self.has_form():
            return False
        for name, kind in self.function[3][0][1]:
            if kind == "ptr" and not self.takes(name, (OUTSIDE,)) or kind != "ptr" and not within(full(kind), self.fact(("name", name))):
                return False
        return all(self.holds_block(label) for label in self.live())

    def holds_block(self, label):
        _, _, body, end = self.blocks[label]
        for slot, (target, args) in enumerate(edges(end)):
            along = self.along(label, slot)
            if along is None:
                continue
            if (label, slot) in self.table[0]:
                return False
            params = self.blocks[target][1]
            if not all(self.takes_argument(name, kind, operand, along) for (name, kind), operand in zip(params, args)):
                return False
        for row in body:
            kind = result_kind(row)
            if kind == "ptr" and not self.takes(row[0], self.result_sites(row)):
                return False
            if kind not in ("ptr", "void"):
                bounds = self.result(row)
                if bounds is not None and not within(bounds, self.fact(("name", row[0]))):
                    return False
        return all(site[1] in self.table[1] for operand in self.escaping(label) for site in self.fact(operand)
                   if operand_kind(self.kinds, operand) == "ptr" and site[0] == "at")

    def escaping(self, label):
        _, _, body, end = self.blocks[label]
        found = [row[3][0] for row in body if row[1] == "store"]
        found += [operand for row in body if row[1] == "call" and row[4][0] != "free" for operand in row[3]]
        return found + (end_operands(end) if end[0] == "ret" else [])

    def better(self):
        """Return the table that one look at all rules makes of this one."""
        live = set(self.live())
        facts, escaped, dead = {}, set(), []
        for label, (_, params, body, end) in self.blocks.items():
            for slot in range(len(edges(end))):
                if label not in live or self.along(label, slot) is None:
                    dead.append((label, slot))
            if label not in live:
                continue
            for row in body:
                if result_kind(row) == "ptr":
                    facts[row[0]] = tuple(sorted(set(self.result_sites(row))))
                elif result_kind(row) != "void":
                    facts[row[0]] = self.result(row)
            for operand in self.escaping(label):
                if operand_kind(self.kinds, operand) == "ptr":
                    escaped.update(site[1] for site in self.fact(operand) if site[0] == "at")
        for label, (_, params, _, _) in self.blocks.items():
            if label in live and label != self.function[3][0][0]:
                facts.update(self.params_of(label, params, live))
        # What was covered by names that no longer escape stands by itself now.
        rows = tuple(sorted((name, fact) for name, fact in facts.items() if fact is not None))
        return (tuple(sorted(dead)), tuple(sorted(escaped)), rows)

    def params_of(self, label, params, live):
        found = {}
        for source in live:
            for slot, (target, args) in enumerate(edges(self.blocks[source][3])):
                along = self.along(source, slot) if target == label else None
                for (name, kind), operand in zip(params, args if along is not None else ()):
                    if kind == "ptr":
                        found[name] = tuple(sorted(set(found.get(name, ()) + self.fact(operand))))
                    else:
                        bounds = along.get(operand, self.fact(operand)) if operand[0] == "name" else self.fact(operand)
                        found[name] = normal(kind, union(found.get(name, bounds), bounds))
        return found


def tables_of(module, function):
    """Return tables of a function that hold: the one that claims nothing, and better and better ones."""
    own = tuple(sorted(Slow(module, function, NOTHING).own))
    found = [((), own, ())]
    for _ in range(4):
        table = Slow(module, function, found[-1]).better()
        # A name may escape less only when its sites are told anew, so own names stay escaped here.
        found.append((table[0], own, table[2]))
    return found


def spoiled(rnd, function, table):
    """Return the table with one place changed."""
    dead, escaped, facts = [list(part) for part in table]
    word = rnd.choice(("dead", "shut", "escaped", "fact", "fact", "fact", "fact", "drop", "order", "odd"))
    if word == "dead" and dead:
        dead.remove(rnd.choice(dead))
    elif word == "shut":
        label, _, _, end = rnd.choice(function[3])
        dead = sorted(set(dead + [(label, rnd.randrange(len(edges(end)) + 1))]))
    elif word == "escaped" and escaped:
        escaped.remove(rnd.choice(escaped))
    elif word == "fact" and facts:
        k = rnd.randrange(len(facts))
        facts[k] = (facts[k][0], changed_fact(rnd, facts[k][1]))
    elif word == "drop" and facts:
        del facts[rnd.randrange(len(facts))]
    elif word == "order":
        rnd.shuffle(facts)
        rnd.shuffle(escaped)
    elif word == "odd" and facts:
        k = rnd.randrange(len(facts))
        facts[k] = (facts[k][0], rnd.choice((None, True, (), (0, 1), (0, 1, 0, False), (0, 2 ** 70, 0, 0), (("at", 99),), (("outside", 1),), "x", 5)))
    return (tuple(dead), tuple(escaped), tuple(facts))


def changed_fact(rnd, fact):
    """Return a fact with one part of it made a little smaller or larger."""
    if len(fact) == 4 and all(whole(item) for item in fact):
        lo, hi, zeros, ones = fact
        return rnd.choice(((lo + 1, hi, zeros, ones), (max(lo - 1, 0), hi, zeros, ones), (lo, max(hi - 1, 0), zeros, ones), (lo, hi, zeros | 1, ones),
                           (lo, hi, zeros, ones | 1), (lo, hi, 0, 0), (lo, hi, zeros & zeros - 1 if zeros else 0, ones)))
    return tuple(site for site in fact if rnd.random() < 0.5)


class TableTest(unittest.TestCase):

    def test_range_of(self):
        function, table = LOOP[1][0], ((), (), LOOP_FACTS)
        self.assertEqual(range_of(function, table, ("name", 0)), (0, 10, 240, 0))
        self.assertEqual(range_of(function, table, ("name", 1)), full("i1"))
        self.assertEqual(range_of(function, NOTHING, ("name", 0)), full("i8"))
        self.assertEqual(range_of(function, table, ("int", "i16", 7)), single("i16", 7))

    def test_sites_of(self):
        function = parse_module("export main i32 { 0(): $0 = alloca 4 $1 = gep $0, 1 $2 = load ptr null !1 ret i32 0 }")[1][0]
        table = ((), (), ((0, (("at", 0),)), (1, ())))
        self.assertEqual(sites_of(function, table, ("name", 0)), (("at", 0),))
        self.assertEqual(sites_of(function, table, ("name", 1)), ())
        self.assertEqual(sites_of(function, table, ("name", 2)), (OUTSIDE,))
        self.assertEqual(sites_of(function, table, ("null",)), ())
        self.assertEqual(sites_of(function, table, ("global", "g")), (("global", "g"),))

    def test_live_labels(self):
        function = parse_module("export main i32 { 5(): condbr i1 1, 1(), 2() 2(): br 4() 1(): switch i8 0, 0: 4(), else 3() "
                                "4(): br 1() 3(): stop !1 9(): br 3() }")[1][0]
        self.assertEqual(live_labels(function, ()), [5, 2, 1, 4, 3])
        self.assertEqual(live_labels(function, ((1, 1), (5, 1))), [5, 1, 4])
        self.assertEqual(live_labels(function, ((5, 0), (5, 1))), [5])
        self.assertEqual(live_labels(function, ((1, 0), (2, 0), (9, 0))), [5, 2, 1, 3])

    def test_document_example(self):
        self.assertIs(holds_values(LOOP, LOOP[1][0], ((), (), LOOP_FACTS)), True)
        for k, (name, (lo, hi, zeros, ones)) in enumerate(LOOP_FACTS):
            for fact in ((lo + 1, hi, zeros, ones), (lo, hi - 1, zeros, ones), (lo, hi, zeros | 8, ones), (lo, hi, zeros, 1)):
                facts = LOOP_FACTS[:k] + ((name, fact),) + LOOP_FACTS[k + 1:]
                self.assertIs(holds_values(LOOP, LOOP[1][0], ((), (), facts)), False, facts)
        self.assertIs(holds_values(LOOP, LOOP[1][0], ((), (), LOOP_FACTS[:2])), False)
        self.assertIs(holds_values(LOOP, LOOP[1][0], NOTHING), True)


class HoldsTest(unittest.TestCase):

    def look(self, text, table, told, name="main"):
        module = parse_module(text)
        self.assertEqual(faults(module), [])
        function = [function for function in module[1] if function[0] == name][0]
        self.assertIs(Slow(module, function, table).holds(), told)
        self.assertIs(holds_values(module, function, table), told)

    def test_results(self):
        text = "export main i32 { 0(): $0 = call i32 get() !1 $1 = and i32 $0, i32 7 $2 = load i8 @g !2 ret $1 } "
        text = "global g 1 " + text
        small = (0, 7, 2 ** 32 - 8, 0)
        self.look(text, ((), (), ((1, small),)), True)
        self.look(text, ((), (), ((1, (0, 6, 2 ** 32 - 8, 0)),)), False)
        self.look(text, ((), (), ((0, (0, 255, 0, 0)),)), False)
        self.look(text, ((), (), ((0, full("i32")), (2, full("i8")))), True)
        self.look(text, ((), (), ((2, (0, 254, 0, 0)),)), False)

    def test_params_of_the_entry(self):
        text = "internal f void { 0($0 i8, $1 ptr): ret } export main i32 { 0(): ret i32 0 }"
        self.look(text, NOTHING, True, "f")
        self.look(text, ((), (), ((0, (0, 254, 0, 0)),)), False, "f")
        self.look(text, ((), (), ((0, full("i8")), (1, (OUTSIDE,)))), True, "f")
        self.look(text, ((), (), ((1, ()),)), False, "f")
        self.look("global g 1 " + text, ((), (), ((1, (("global", "g"),)),)), False, "f")

    def test_dead_edges(self):
        text = "export main i32 {{ 0(): condbr {}, 1(i8 5), 2() 1($1 i8): ret i32 1 2(): ret i32 2 }}"
        five = ((1, single("i8", 4)),)
        self.look(text.format("i1 0"), (((0, 0),), (), ()), True)
        self.look(text.format("i1 0"), (((0, 0),), (), five), True)
        self.look(text.format("i1 0"), ((), (), five), True)
        self.look(text.format("i1 1"), (((0, 1),), (), five), False)
        self.look(text.format("i1 1"), (((0, 0),), (), ()), False)
        self.look(text.format("i1 1"), (((0, 0), (0, 1)), (), ()), False)
        self.look(text.format("i1 0"), (((0, 1),), (), ()), False)
        self.look(text.format("i1 0"), (((0, 0), (0, 1)), (), ()), False)
        self.look(text.replace("2()", "2(i8 7)").replace("2(i8 7):", "2($2 i8):").format("i1 0"), ((), (), ((2, single("i8", 6)),)), False)
        self.look(text.format("i1 1"), (((0, 1), (1, 0)), (), ()), False)
        self.look(text.format("i1 1"), (((0, 2),), (), ()), False)
        self.look(text.format("i1 1"), (((7, 0),), (), ()), False)

    def test_dead_edges_of_labels_that_are_not_live(self):
        text = "export main i32 { 0(): br 1() 1(): ret i32 1 2(): br 3() 3(): br 2() }"
        self.look(text, (((2, 0), (3, 0)), (), ()), True)
        self.look(text, (((0, 0),), (), ()), False)
        self.look("export main i32 { 0(): condbr i1 1, 1(), 2() 1(): ret i32 1 2(): br 3() 3(): br 2() }", (((0, 1), (2, 0), (3, 0)), (), ()), True)
        self.look("export main i32 { 0(): condbr i1 1, 1(), 2() 1(): ret i32 1 2(): br 3() 3(): br 2() }", (((2, 0), (3, 0)), (), ()), False)

    def test_switches(self):
        text = "export main i32 {{ 0(): switch i8 {}, 3: 1(), 5: 2(), else 3() 1(): ret i32 1 2(): ret i32 2 3(): ret i32 3 }}"
        for value, taken in ((3, 0), (5, 1), (4, 2), (0, 2)):
            for slots in ((0,), (1,), (2,), (0, 1), (0, 2), (1, 2), (0, 1, 2)):
                self.look(text.format(value), (tuple((0, slot) for slot in slots), (), ()), taken not in slots)

    def test_edges_shut_by_a_comparison(self):
        text = ("export main i32 { 0(): $0 = call i32 get() !1 $1 = and i32 $0, i32 7 $2 = icmp ugt i32 $1, i32 9 br 4() 4(): condbr $2, 1(), 2() "
                "1(): ret i32 1 2(): ret i32 2 }")
        small = ((1, (0, 7, 2 ** 32 - 8, 0)),)
        self.look(text, (((4, 0),), (), small), True)
        self.look(text, (((4, 0),), (), ()), False)
        self.look(text, (((4, 1),), (), small), False)

    def test_edges_shut_by_a_trap(self):
        text = "export main i32 { 0(): $0 = call i32 get() !1 $1 = udiv i32 $0, i32 0 !2 condbr i1 1, 1(), 2() 1(): ret i32 1 2(): ret i32 2 }"
        self.look(text, (((0, 0), (0, 1)), (), ()), True)
        self.look(text, (((0, 0), (0, 1)), (), ((1, (9, 3, 0, 0)),)), True)
        self.look(text.replace("i32 0 !2", "i32 1 !2"), (((0, 0), (0, 1)), (), ()), False)

    def test_ranges_along_an_edge(self):
        text = ("export main i32 {{ 0(): $0 = call i32 get() !1 $1 = icmp {} i32 {} condbr $1, 1($0), 2($0) "
                "1($2 i32): ret $2 2($3 i32): ret $3 }}")
        top = 2 ** 32 - 1
        self.look(text.format("ult", "$0, i32 10"), ((), (), ((2, (0, 9, 0, 0)), (3, (10, top, 0, 0)))), True)
        self.look(text.format("ugt", "i32 10, $0"), ((), (), ((2, (0, 9, 0, 0)), (3, (10, top, 0, 0)))), True)
        self.look(text.format("ult", "$0, i32 10"), ((), (), ((2, (0, 8, 0, 0)),)), False)
        self.look(text.format("ult", "$0, i32 10"), ((), (), ((3, (11, top, 0, 0)),)), False)
        self.look(text.format("eq", "$0, i32 10"), ((), (), ((2, single("i32", 10)),)), True)
        self.look(text.format("ne", "$0, i32 0"), ((), (), ((2, (1, top, 0, 0)), (3, single("i32", 0)))), True)
        self.look(text.format("slt", "$0, i32 10"), ((), (), ((2, (0, 9, 0, 0)),)), False)
        # One name on both sides: the range of the first operand.
        self.look(text.format("ult", "$0, $0"), ((), (), ((2, (0, top - 1, 0, 0)),)), True)
        self.look(text.format("ult", "$0, $0"), ((), (), ((2, (1, top, 0, 0)),)), False)

    def test_a_switch_is_not_a_comparison(self):
        text = ("export main i32 { 0(): $0 = call i32 get() !1 $1 = icmp ult i32 $0, i32 10 switch $1, 0: 1($0), else 2($0) "
                "1($2 i32): ret $2 2($3 i32): ret $3 }")
        for name in (2, 3):
            self.look(text, ((), (), ((name, (0, 9, 0, 0)),)), False)
            self.look(text, ((), (), ((name, (10, 2 ** 32 - 1, 0, 0)),)), False)

    def test_sites(self):
        text = ("global g 1 0 0 0 0 0 0 0 global h 1 export main i32 { 0(): $0 = alloca 4 $1 = gep $0, 1 $2 = call ptr malloc(i64 4) !1 "
                "$3 = select ptr i1 1, $1, @g $4 = load ptr @g !2 condbr i1 0, 1($3), 1($2) 1($5 ptr): ret i32 0 }")
        at0, at2, g = ("at", 0), ("at", 2), ("global", "g")
        facts = {0: (at0,), 1: (at0,), 2: (at2,), 3: (at0, g), 4: (OUTSIDE,), 5: (at0, at2, g)}

        def table(escaped=(), **changes):
            rows = dict(facts)
            rows.update({int(name[1:]): fact for name, fact in changes.items()})
            return ((), escaped, tuple(sorted(rows.items())))

        self.look(text, table(), True)
        self.look(text, table(_5=(at2,)), True)  # Slot 0 is shut.
        self.look(text, table(_5=(at0, g)), False)
        for change in ({"_0": ()}, {"_0": (OUTSIDE,)}, {"_1": ()}, {"_2": (at0,)}, {"_3": (at0,)}, {"_3": (g,)}, {"_4": (g,)}, {"_4": ()}):
            self.look(text, table(**change), False)
        self.look(text, table(_3=(at0, g, OUTSIDE)), True)
        self.look(text, table(_3=(at0, OUTSIDE)), True)  # A global is covered.
        self.look(text, table(_3=(OUTSIDE,)), False)
        self.look(text, table((0,), _3=(OUTSIDE,)), True)
        self.look(text, table((0,), _0=(OUTSIDE,), _1=(OUTSIDE,), _3=(OUTSIDE,)), True)
        self.look(text, table((0, 2), _2=(OUTSIDE,), _5=(OUTSIDE,)), True)
        self.look(text, ((), (0, 2), ()), True)
        self.look(text, NOTHING, False)

    def test_escapes(self):
        head = "global g 0 0 0 0 0 0 0 0 internal f void { 0($0 ptr): ret } internal k ptr { 0(): $0 = alloca 4 ret $0 } "
        for rows, escapes in (("store ptr $0, @g !1", True), ("call void f($0) !1", True), ("call void free($0) !1", False),
                              ("store i8 i8 1, $0 !1", False), ("$1 = load i8 $0 !1", False), ("kill $0", False),
                              ("$1 = icmp eq ptr $0, null", False), ("$1 = select ptr i1 1, $0, null store ptr $1, @g !1", True),
                              ("$1 = gep $0, 4 call void f($1) !1", True), ("store ptr $0, $0 !1", True)):
            text = head + "export main i32 { 0(): $0 = alloca 4 " + rows + " ret i32 0 }"
            facts = ((0, (("at", 0),)),)
            if "$1 = select" in rows or "$1 = gep" in rows:
                facts += ((1, (("at", 0),)),)
            self.look(text, ((), (), facts), not escapes)
            self.look(text, ((), (0,), facts), True)
        self.look(head + "export main i32 { 0(): ret i32 0 }", ((), (), ((0, (("at", 0),)),)), False, "k")
        self.look(head + "export main i32 { 0(): ret i32 0 }", ((), (0,), ((0, (("at", 0),)),)), True, "k")

    def test_blocks_that_are_not_live_are_not_looked_at(self):
        text = "export main i32 { 0(): condbr i1 1, 1(), 2() 1(): ret i32 0 2(): $0 = alloca 4 $1 = add i8 i8 1, i8 1 br 1() }"
        self.look(text, (((0, 1),), (), ((0, ()), (1, single("i8", 3)))), True)
        self.look(text, ((), (), ((0, (("at", 0),)), (1, single("i8", 3)))), False)

    def test_plain_values_that_are_no_tables(self):
        function = LOOP[1][0]
        text = parse_module("global g 1 export main i32 { 0(): $0 = alloca 4 $1 = load ptr $0 !1 $2 = load i8 @g !2 br 1() 1(): ret i32 0 }")
        for value in (None, True, 5, "abc", (), ((),), ((), ()), ((), (), (), ()), ((), (), None), (None, (), ()), ((), 0, ()), ("", (), ()),
                      ((), (), ((0, None),)), ((), (), ((0, (0, 255, 0)),)), ((), (), ((0, (0, 255, 0, 0, 0)),)), ((), (), ((0, (0, 256, 0, 0)),)),
                      ((), (), ((0, (-1, 255, 0, 0)),)), ((), (), ((0, (0, 255, False, 0)),)), ((), (), ((False, (0, 255, 0, 0)),)),
                      ((), (), (("0", (0, 255, 0, 0)),)), ((), (), ((9, (0, 255, 0, 0)),)), ((), (), ((0, (0, 255, 0, 0)),) * 2),
                      ((), (), ((2, full("i8")), (0, full("i8")))), ((), (), (0,)), ((), (), ((0,),)), ((), (), ((0, (OUTSIDE,)),)),
                      ((0,), (), ()), (((0,),), (), ()), (((0, 0, 0),), (), ()), ((("0", 0),), (), ()), (((0, True),), (), ()), (((0, -1),), (), ()),
                      ((), (0,), ()), ((), (True,), ()), ((), ("0",), ()), ((), ((0,),), ())):
            self.assertIs(holds_values(LOOP, function, value), False, value)
        function = text[1][0]
        self.assertIs(holds_values(text, function, ((), (0,), ())), True)
        for facts in (((0, (("at", 1),)),), ((0, (("at", True),)),), ((0, (("at", "0"),)),), ((0, (("global", "h"),)),), ((0, (("global", 0),)),),
                      ((0, (("nowhere", 0),)),), ((0, (("at", 0, 0),)),), ((0, ("at", 0)),), ((0, OUTSIDE),), ((0, (OUTSIDE, ("at", 0))),),
                      ((0, (OUTSIDE, OUTSIDE)),), ((0, full("i64")),), ((0, None),), ((0, (None,)),), ((0, ((),)),), ((0, (("outside", 0),)),)):
            self.assertIs(holds_values(text, function, ((), (0,), facts)), False, facts)
        other = parse_module("export main i32 { 0(): br 1() 1(): condbr i1 0, 2(), 2() 2(): ret i32 0 }")
        for edge, told in (((1, 0), True), ((True, 0), False), ((1, False), False), ((1, 1), False)):
            self.assertIs(holds_values(other, other[1][0], ((edge,), (), ())), told, edge)
        other = parse_module("global g 1 export main i32 { 0(): $1 = alloca 4 ret i32 0 }")
        for fact, told in (((("at", 1),), True), ((("at", True),), False), ((("nowhere", "g"),), False), ((("at", 1), ("nowhere", "g")), False),
                           ((("at", 1), ("global", "g")), True), ((("at", 1), ("global", ("g",))), False)):
            self.assertIs(holds_values(other, other[1][0], ((), (), ((1, fact),))), told, fact)
        self.assertIs(holds_values(other, other[1][0], ((), (), ((True, (("at", 1),)),))), False)
        for table in (((), (0, 0), ()), ((), (1,), ()), ((), (0, 1), ()), (((0, 0), (0, 0)), (0,), ()), ((), (0,), ((2, ()),))):
            self.assertIs(holds_values(text, function, table), False, table)


class RandomTest(unittest.TestCase):

    def test_tables_that_hold_and_spoiled_ones(self):
        counts = {True: 0, False: 0}
        for seed in range(120):
            rnd = random.Random(seed)
            module = Maker(rnd).module()
            for function in module[1]:
                for table in tables_of(module, function):
                    before = copy.deepcopy(table)
                    self.assertEqual(holds_values(module, function, table), Slow(module, function, table).holds())
                    self.assertEqual(table, before)
                    for _ in range(6):
                        worse = spoiled(rnd, function, table)
                        told = Slow(module, function, worse).holds()
                        self.assertIs(holds_values(module, function, worse), told, (function, worse))
                        counts[told] += 1
        self.assertGreater(min(counts.values()), 200)

    def test_tables_are_true_of_runs(self):
        for seed in range(120):
            module = Maker(random.Random(seed)).module()
            tables = {}
            for function in module[1]:
                held = [table for table in tables_of(module, function) if holds_values(module, function, table)]
                self.assertTrue(held)
                tables[function[0]] = held[-1]
            machine = Machine(module, [seed, 3])
            while machine.end == ("none",) and machine.steps < 150:
                for frame in machine.state[0]:
                    self.look_at_frame(module, frame, dict(tables[frame[0]][2]))
                machine.go(fuel=1)

    def look_at_frame(self, module, frame, facts):
        kinds = kinds_of([function for function in module[1] if function[0] == frame[0]][0])
        for name, value in frame[3].items():
            if name in facts and kinds[name] != "ptr":
                lo, hi, zeros, ones = facts[name]
                self.assertTrue(lo <= value <= hi and not value & zeros and value & ones == ones)
            if name in facts and kinds[name] == "ptr" and facts[name] == ():
                self.assertEqual(value, ("null",))


class ApartTest(unittest.TestCase):

    def setUp(self):
        text = ("global g 1 2 3 4 5 6 7 8 global h 1 export main i32 { 0(): $0 = alloca 8 $1 = alloca 8 $2 = gep $0, 4 $3 = gep $2, -2 "
                "$4 = gep $0, 0, i64 1 * 1 $5 = gep $4, 4 $6 = load ptr @g !1 $7 = gep $6, 8 $8 = gep null, 4 ret i32 0 }")
        self.function = parse_module(text)[1][0]
        self.table = ((), (), tuple((name, (("at", 0),)) for name in (0, 2, 3, 4, 5)) + ((6, (OUTSIDE,)),))
        self.table = ((), (), tuple(sorted(self.table[2] + ((1, (("at", 1),)), (8, ())))))

    def look(self, p, n, q, m, told, table=None):
        table = table or self.table
        p, q = [("name", x) if isinstance(x, int) else x for x in (p, q)]
        self.assertIs(apart(self.function, table, p, n, q, m), told)
        self.assertIs(apart(self.function, table, q, m, p, n), told)

    def test_sites_tell_apart(self):
        g, h, null = ("global", "g"), ("global", "h"), ("null",)
        self.look(0, 8, 1, 8, True)
        self.look(0, 8, g, 8, True)
        self.look(g, 8, h, 8, True)
        self.look(g, 1, g, 1, False)
        self.look(0, 8, 6, 8, True)
        self.look(g, 8, 6, 8, False)
        self.look(6, 8, 7, 8, True)
        self.look(6, 9, 7, 8, False)
        self.look(null, 8, null, 8, True)
        self.look(null, 8, g, 8, True)
        self.look(8, 8, 8, 8, True)
        escaped = ((), (0,), self.table[2])
        self.look(0, 8, 6, 8, False, escaped)
        self.look(1, 8, 6, 8, True, escaped)
        # One of several sites suffices, also one that ("outside",) covers.
        for sites, told in (((("at", 1),), True), ((("at", 0), ("at", 1)), False), ((("at", 1), g), False), ((OUTSIDE,), False)):
            self.look(2, 8, 6, 8, told, ((), (0,), ((2, sites), (6, (("at", 9), OUTSIDE)))))

    def test_offsets_tell_apart(self):
        self.look(0, 4, 2, 4, True)
        self.look(0, 5, 2, 4, False)
        self.look(0, 2, 3, 2, True)
        self.look(0, 3, 3, 2, False)
        self.look(3, 2, 2, 4, True)
        self.look(3, 3, 2, 4, False)
        self.look(0, 1, 0, 1, False)
        self.look(4, 4, 5, 4, True)
        self.look(0, 1, 5, 1, False)
        self.look(0, 1, 4, 1, False)

    def test_at_most_eight_geps(self):
        rows = "$0 = load ptr null !1 " + " ".join(f"${k + 1} = gep ${k}, 1" for k in range(9))
        self.function = parse_module("export main i32 { 0(): " + rows + " ret i32 0 }")[1][0]
        for count in range(1, 10):
            self.look(count, 1, 0, 1, count <= 8, ((), (), ()))
        self.look(9, 1, 1, 1, True, ((), (), ()))
        self.look(9, 1, 1, 9, False, ((), (), ()))


if __name__ == "__main__":
    unittest.main()
