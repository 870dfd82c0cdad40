"""Promises 3.1 to 3.8: scopes and faults."""

import copy
import random
import unittest

from burnish.faults import faults, function_faults, is_valid
from burnish.parse import parse_module
from burnish.records import definitions, edges, end_operands, result_kind
from burnish.scopes import dominating, kinds_of, operand_kind, reached, signature
from burnish.show import show_module
from samples import BINARIES, DIVISIONS, INTEGERS, KINDS, TEXT, WIDTHS, Maker

BUILTINS = {"get": ((), "i32"), "put": (("i32",), "void"), "exit": (("i32",), "void"),
            "malloc": (("i64",), "ptr"), "free": (("ptr",), "void")}


def label_numbers(blocks):
    numbers = {}
    for k, block in enumerate(blocks):
        numbers.setdefault(block[0], k)
    return numbers


def reach_without(blocks, barred):
    """Return the numbers of the blocks that paths without the barred one lead to."""
    numbers = label_numbers(blocks)
    found, waiting = set(), [0]
    while waiting:
        k = waiting.pop()
        if k in found or k == barred:
            continue
        found.add(k)
        waiting.extend(numbers[label] for label, _ in edges(blocks[k][3]) if label in numbers)
    return found


class Oracle:
    """Faults as the document tells them, looked up one by one and slowly."""

    def __init__(self, module, function):
        self.module, self.function = module, function
        self.blocks = function[3]
        self.numbers = label_numbers(self.blocks)
        self.reached = reach_without(self.blocks, None)
        self.without = {}
        self.first, self.kinds, self.again = {}, {}, set()
        for k, (_, params, body, _) in enumerate(self.blocks):
            rows = [(-1, name, kind) for name, kind in params]
            rows += [(i, row[0], result_kind(row)) for i, row in enumerate(body) if row[0] != -1]
            for i, name, kind in rows:
                if name in self.first:
                    self.again.add((k, i))
                else:
                    self.first[name], self.kinds[name] = (k, i), kind

    def kind(self, operand):
        return operand[1] if operand[0] == "int" else self.kinds[operand[1]] if operand[0] == "name" else "ptr"

    def unknown(self, operand):
        if operand[0] == "name":
            return operand[1] not in self.kinds
        return operand[0] == "global" and operand[1] not in [record[0] for record in self.module[0]]

    def ahead(self, name, k, i):
        if k not in self.reached:
            return True
        maker, at = self.first[name]
        if maker == k:
            return at < i
        if maker not in self.without:
            self.without[maker] = reach_without(self.blocks, maker)
        return maker in self.reached and k not in self.without[maker]

    def uses(self, operands, k, i):
        codes = set()
        for operand in operands:
            if self.unknown(operand):
                codes.add("unknown")
            elif operand[0] == "name" and not self.ahead(operand[1], k, i):
                codes.add("order")
        return codes

    def kinds_wrong(self, operands, tests):
        for operand, test in zip(operands, tests):
            if not self.unknown(operand) and not test(self.kind(operand)):
                return {"kind"}
        return set()

    def callee(self, word):
        if word in BUILTINS:
            return BUILTINS[word]
        for function in self.module[1]:
            if function[0] == word:
                return tuple(kind for _, kind in function[3][0][1]), function[1]
        return None

    def instruction(self, row, k, i):
        name, op, kind, operands, data, place = row
        codes = self.uses(operands, k, i)
        has_result = op not in ("store", "kill") and not (op == "call" and kind == "void")
        if (name != -1) != has_result:
            codes.add("result")
        if (place != -1) != (op in DIVISIONS + ("load", "store", "call")):
            codes.add("place")
        if (k, i) in self.again:
            codes.add("twice")
        same, pointer = lambda other: other == kind, lambda other: other == "ptr"
        tests = []
        if op in BINARIES + DIVISIONS + ("icmp",):
            tests = [same, same]
        elif op == "select":
            tests = [lambda other: other == "i1", same, same]
        elif op == "trunc":
            tests = [lambda other: WIDTHS.get(other, 0) > WIDTHS[kind]]
        elif op in ("zext", "sext"):
            tests = [lambda other: WIDTHS.get(other, 99) < WIDTHS[kind]]
        elif op == "gep":
            tests = [pointer] + [lambda other: other == "i64"] * 9
            if len(operands) != len(data):
                codes.add("count")
        elif op in ("load", "kill"):
            tests = [pointer]
        elif op == "store":
            tests = [same, pointer]
        elif op == "call":
            told = self.callee(data[0])
            if told is None:
                return codes | {"unknown"}
            if told[1] != kind:
                codes.add("kind")
            if len(told[0]) != len(operands):
                codes.add("count")
            tests = [lambda other, want=want: other == want for want in told[0]]
        if op == "icmp" and kind == "ptr" and data[0] not in ("eq", "ne"):
            codes.add("kind")
        return codes | self.kinds_wrong(operands, tests)

    def end(self, end, k, i):
        codes = self.uses(end_operands(end), k, i)
        for label, args in edges(end):
            if label not in self.numbers:
                codes.add("unknown")
                continue
            params = self.blocks[self.numbers[label]][1]
            if len(params) != len(args):
                codes.add("count")
            codes |= self.kinds_wrong(args, [lambda other, want=want: other == want for _, want in params])
        if end[0] == "condbr":
            codes |= self.kinds_wrong([end[1]], [lambda other: other == "i1"])
        if end[0] == "switch":
            codes |= self.kinds_wrong([end[1]], [lambda other: other in WIDTHS])
            values = [value for value, _ in end[2]]
            if values != sorted(set(values)):
                codes.add("cases")
            kind = None if self.unknown(end[1]) else self.kind(end[1])
            if kind in WIDTHS and any(value >= 2 ** WIDTHS[kind] for value in values):
                codes.add("kind")
        if end[0] == "ret":
            kind = self.function[1]
            if (end[1] is None) != (kind == "void"):
                codes.add("kind")
            elif end[1] is not None:
                codes |= self.kinds_wrong([end[1]], [lambda other: other == kind])
        return codes

    def faults(self):
        found = []
        entry = self.blocks[0][0]
        for k, (label, _, body, end) in enumerate(self.blocks):
            codes = set()
            if self.numbers[label] != k:
                codes.add("label")
            if k == 0 and any(to == entry for block in self.blocks for to, _ in edges(block[3])):
                codes.add("entry")
            if (k, -1) in self.again:
                codes.add("twice")
            rows = [(-1, codes)] + [(i, self.instruction(row, k, i)) for i, row in enumerate(body)]
            rows.append((len(body), self.end(end, k, len(body))))
            for i, codes in rows:
                found += [(self.function[0], label, i, code) for code in sorted(codes)]
        return found


def expected_faults(module):
    found, names = [], []
    for record in module[0]:
        if record[0] in names:
            found.append((record[0], -1, -1, "name"))
        names.append(record[0])
    for function in module[1]:
        if function[0] in names:
            found.append((function[0], -1, -1, "name"))
        names.append(function[0])
        found += Oracle(module, function).faults()
    mains = [function for function in module[1] if function[0] == "main"]
    if not mains or mains[0][1] != "i32" or mains[0][2] or mains[0][3][0][1]:
        found.append(("", -1, -1, "main"))
    return list(dict.fromkeys(found))


def found_in(text):
    return faults(parse_module(text))


def main_with(rows, end="ret i32 0", more=""):
    return more + " export main i32 { 0(): " + rows + " " + end + " }"


class ScopesTest(unittest.TestCase):

    def test_reached_and_dominating(self):
        text = "export main i32 { 7(): condbr i1 1, 3(), 5() 9(): br 3() 5(): br 2() 3(): br 2() 2(): switch i8 0, 1: 5(), else 4() 4(): stop !1 8(): br 77() }"
        function = parse_module(text)[1][0]
        self.assertEqual(reached(function), [7, 5, 3, 2, 4])
        self.assertEqual(dominating(function), {7: [7], 5: [7, 5], 3: [7, 3], 2: [7, 2], 4: [7, 2, 4]})

    def test_a_label_means_the_first_block(self):
        function = parse_module("export main i32 { 0(): br 1() 1(): br 2() 1(): br 3() 2(): ret i32 0 3(): ret i32 0 0(): br 3() }")[1][0]
        self.assertEqual(reached(function), [0, 1, 2])
        self.assertEqual(dominating(function), {0: [0], 1: [0, 1], 2: [0, 1, 2]})

    def test_order_is_that_of_the_blocks(self):
        function = parse_module("export main i32 { 5(): br 9() 1(): br 0() 9(): br 1() 0(): ret i32 0 }")[1][0]
        self.assertEqual(reached(function), [5, 1, 9, 0])
        self.assertEqual(dominating(function), {5: [5], 1: [5, 1, 9], 9: [5, 9], 0: [5, 1, 9, 0]})

    def test_dominating_against_removed_blocks(self):
        for seed in range(200):
            rnd = random.Random(seed)
            labels = rnd.sample(range(20), rnd.randrange(1, 9))
            blocks = tuple((label, (), (), ("switch", ("int", "i8", 0), tuple(
                (k, (rnd.choice(labels), ())) for k in range(rnd.randrange(2))), (rnd.choice(labels), ()))
                if rnd.random() < 0.8 else ("ret", None)) for label in labels)
            function = ("f", "void", True, blocks)
            live = reach_without(blocks, None)
            self.assertEqual(reached(function), [labels[k] for k in sorted(live)])
            expected = {labels[k]: [labels[j] for j in sorted(live) if k not in reach_without(blocks, j)] for k in live}
            self.assertEqual(dominating(function), expected)

    def test_kinds(self):
        module = parse_module(TEXT)
        kinds = kinds_of(module[1][1])
        self.assertEqual(kinds, {0: "ptr", 1: "ptr", 2: "i32", 3: "i32", 4: "i1", 5: "i32", 6: "ptr"})
        self.assertEqual(operand_kind(kinds, ("int", "i16", 3)), "i16")
        self.assertEqual(operand_kind(kinds, ("null",)), "ptr")
        self.assertEqual(operand_kind(kinds, ("global", "nowhere")), "ptr")
        self.assertEqual(operand_kind(kinds, ("name", 4)), "i1")
        self.assertIsNone(operand_kind(kinds, ("name", 7)))
        odd = parse_module("export f void { 0($1 i8): $1 = alloca 4 $2 = kill null ret }")[1][0]
        self.assertEqual(kinds_of(odd), {1: "i8", 2: "void"})

    def test_signature(self):
        module = parse_module("internal f ptr { 0($1 i8, $2 ptr): ret null } internal f void { 0(): ret } " + TEXT.split("constant h 255\n")[1])
        self.assertEqual(signature(module, "f"), (("i8", "ptr"), "ptr"))
        self.assertEqual(signature(module, "main"), ((), "i32"))
        self.assertIsNone(signature(module, "g"))
        for word, told in BUILTINS.items():
            self.assertEqual(signature(module, word), told)


class FaultsTest(unittest.TestCase):

    def test_no_faults(self):
        module = parse_module(TEXT)
        self.assertEqual(faults(module), [])
        self.assertIs(is_valid(module), True)
        self.assertEqual(function_faults(module, module[1][0]), [])
        for seed in range(150):
            made = Maker(random.Random(seed)).module()
            self.assertEqual(faults(made), [], seed)

    def test_example(self):
        text = "export main i32 { 0(): condbr i1 1, 1(), 2() 1(): $0 = add i8 i8 1, i8 2 br 3() 2(): br 3() 3(): ret $0 }"
        self.assertEqual(found_in(text), [("main", 3, 0, "kind"), ("main", 3, 0, "order")])
        self.assertIs(is_valid(parse_module(text)), False)

    def test_name(self):
        main = " export main i32 { 0(): ret i32 0 }"
        self.assertEqual(found_in("global g 1 constant g 2 global h 1 internal h void { 0(): ret }" + main),
                         [("g", -1, -1, "name"), ("h", -1, -1, "name")])
        self.assertEqual(found_in("global g 1 global g 1 global g 1 internal g void { 0(): ret }" + main), [("g", -1, -1, "name")])
        self.assertEqual(found_in("global main 1" + main), [("main", -1, -1, "name")])

    def test_main(self):
        wrong = [("", -1, -1, "main")]
        self.assertEqual(found_in(""), wrong)
        self.assertEqual(found_in("global main 1"), wrong)
        self.assertEqual(found_in("internal main i32 { 0(): ret i32 0 }"), wrong)
        self.assertEqual(found_in("export main i32 { 0($1 i8): ret i32 0 }"), wrong)
        self.assertEqual(found_in("export main i8 { 0(): ret i8 0 }"), wrong)
        self.assertEqual(found_in("export main void { 0(): ret }"), wrong)
        self.assertEqual(found_in("internal main i32 { 0(): ret i32 0 } export main i32 { 0(): ret i32 0 }"),
                         [("main", -1, -1, "name"), ("", -1, -1, "main")])
        self.assertEqual(found_in("export main i32 { 0(): ret i32 0 } internal main i32 { 0(): ret i32 0 }"), [("main", -1, -1, "name")])

    def test_label_and_entry(self):
        self.assertEqual(found_in("export main i32 { 0(): br 1() 1(): ret i32 0 1(): br 1() }"), [("main", 1, -1, "label")])
        self.assertEqual(found_in("export main i32 { 4(): br 1() 1(): br 4() }"), [("main", 4, -1, "entry")])
        self.assertEqual(found_in("export main i32 { 4(): ret i32 0 1(): br 4() 4(): ret i32 0 }"),
                         [("main", 4, -1, "entry"), ("main", 4, -1, "label")])

    def test_two_blocks_with_one_label_are_two_places(self):
        text = "export main i32 { 0(): br 1() 1(): ret i8 0 1(): ret i8 0 1(): $1 = add i8 i8 0, $9 ret i8 1 }"
        self.assertEqual(found_in(text), [("main", 1, 0, "kind"), ("main", 1, -1, "label"), ("main", 1, 0, "unknown"), ("main", 1, 1, "kind")])

    def test_twice(self):
        self.assertEqual(found_in("export main i32 { 0(): $1 = alloca 1 $1 = alloca 1 br 1(i8 1, i8 1) 1($2 i8, $2 i8): $2 = alloca 1 ret i32 0 }"),
                         [("main", 0, 1, "twice"), ("main", 1, -1, "twice"), ("main", 1, 0, "twice")])
        # The first definition counts: its kind, and its place.
        self.assertEqual(found_in("export main i32 { 0(): br 1(i8 1) 1($2 i8): br 2(i32 1) 2($2 i32): ret $2 }"),
                         [("main", 2, -1, "twice"), ("main", 2, 0, "kind")])
        self.assertEqual(found_in("export main i32 { 0(): condbr i1 1, 1(i32 1), 2(i32 1) 1($2 i32): ret $2 2($2 i32): ret $2 }"),
                         [("main", 2, -1, "twice"), ("main", 2, 0, "order")])

    def test_result(self):
        self.assertEqual(found_in(main_with("add i8 i8 1, i8 1 $1 = store i8 i8 1, null !1 $2 = kill null call i32 get() !2 $3 = call void put(i32 1) !3")),
                         [("main", 0, k, "result") for k in range(5)])

    def test_place(self):
        self.assertEqual(found_in(main_with("$1 = add i8 i8 1, i8 1 !4 $2 = udiv i8 i8 1, i8 1 $3 = load i8 null store i8 i8 1, null "
                                            "call void put(i32 1) $5 = alloca 4 !0 kill null !1")),
                         [("main", 0, k, "place") for k in range(7)])

    def test_unknown(self):
        rows = "$1 = add i8 $9, i8 1 kill @nowhere call void nobody(i8 1) !1 $2 = add i8 $8, @main"
        self.assertEqual(found_in(main_with(rows, "br 8($7)")), [
            ("main", 0, 0, "unknown"), ("main", 0, 1, "unknown"), ("main", 0, 2, "unknown"), ("main", 0, 3, "unknown"), ("main", 0, 4, "unknown")])
        self.assertEqual(found_in(main_with("", "condbr $9, 5(), 6()")), [("main", 0, 0, "unknown")])
        self.assertEqual(found_in(main_with("", "ret $9")), [("main", 0, 0, "unknown")])
        self.assertEqual(found_in("internal f void { 0(): ret $9 }" + main_with("")), [("f", 0, 0, "kind"), ("f", 0, 0, "unknown")])
        # The right kind is not asked of what is not known, but the kind of a call and other operands are looked at.
        self.assertEqual(found_in(main_with("call i8 nobody($9) !1 store i8 i16 1, $9 !2")), [
            ("main", 0, 0, "result"), ("main", 0, 0, "unknown"), ("main", 0, 1, "kind"), ("main", 0, 1, "unknown")])

    def test_kind_of_operands(self):
        wrong = (
            "$1 = add i8 i16 1, i8 1", "$1 = add i8 i8 1, i16 1", "$1 = lshr i8 i8 1, null", "$1 = udiv i8 null, i8 1 !1",
            "$1 = icmp eq i8 i16 1, i8 1", "$1 = icmp eq ptr i8 1, null", "$1 = icmp ult ptr null, null", "$1 = icmp sge ptr null, null",
            "$1 = select i8 i8 1, i8 1, i8 1", "$1 = select i8 i1 1, i8 1, i16 1", "$1 = select ptr i1 1, i8 1, null",
            "$1 = trunc i8 i8 1", "$1 = trunc i8 i1 1", "$1 = trunc i8 null", "$1 = trunc i64 i64 1", "$1 = zext i8 i8 1", "$1 = zext i8 i16 1",
            "$1 = zext i1 i1 1", "$1 = sext i8 i64 1", "$1 = sext i8 null", "$1 = gep i64 1, 0", "$1 = gep null, 0, i32 1 * 1",
            "$1 = gep null, 0, i64 1 * 1, null * 1", "$1 = load i8 i64 1 !1", "store i8 i16 1, null !1", "store ptr i64 1, null !1",
            "store i8 i8 1, i64 1 !1", "kill i8 1", "call void put(i8 1) !1", "$1 = call i8 get() !1", "call void free(i64 1) !1",
            "$1 = call ptr malloc(i32 1) !1", "call i32 put(i32 1) !1",
        )
        for rows in wrong:
            codes = [fault[3] for fault in found_in(main_with(rows))]
            self.assertIn("kind", codes, rows)
            self.assertLessEqual(set(codes), {"kind", "result"}, rows)
        right = (
            "$1 = trunc i8 i16 1", "$1 = trunc i1 i8 1", "$1 = zext i8 i1 1", "$1 = sext i64 i32 1", "$1 = icmp ne ptr null, null",
            "$1 = select ptr i1 1, null, null", "$1 = gep null, 0, i64 1 * 1", "store ptr null, null !1", "$1 = call ptr malloc(i64 1) !1",
        )
        for rows in right:
            self.assertEqual(found_in(main_with(rows)), [], rows)

    def test_kind_of_ends(self):
        self.assertEqual(found_in(main_with("", "ret i8 0")), [("main", 0, 0, "kind")])
        self.assertEqual(found_in(main_with("", "ret")), [("main", 0, 0, "kind")])
        self.assertEqual(found_in("internal f void { 0(): ret null }" + main_with("")), [("f", 0, 0, "kind")])
        self.assertEqual(found_in("internal f ptr { 0(): ret null }" + main_with("")), [])
        two = " 1($1 i8): ret i32 0 }"
        self.assertEqual(found_in("export main i32 { 0(): br 1(i16 0)" + two), [("main", 0, 0, "kind")])
        self.assertEqual(found_in("export main i32 { 0(): condbr i8 1, 1(i8 0), 1(i8 0)" + two), [("main", 0, 0, "kind")])
        self.assertEqual(found_in("export main i32 { 0(): switch null, 0: 1(i8 0), else 1(i8 0)" + two), [("main", 0, 0, "kind")])
        self.assertEqual(found_in("export main i32 { 0(): switch i8 1, 256: 1(i8 0), else 1(i8 0)" + two), [("main", 0, 0, "kind")])
        self.assertEqual(found_in("export main i32 { 0(): switch i8 1, 255: 1(i8 0), else 1(i8 0)" + two), [])
        self.assertEqual(found_in("export main i32 { 0(): switch i1 1, 0: 1(i8 0), 1: 1(i8 0), else 1(i8 0)" + two), [])

    def test_count(self):
        more = "internal f void { 0($1 i8, $2 i8): ret }"
        self.assertEqual(found_in(main_with("call void f(i8 1) !1", more=more)), [("main", 0, 0, "count")])
        self.assertEqual(found_in(main_with("call void f(i8 1, i8 1, i8 1) !1", more=more)), [("main", 0, 0, "count")])
        self.assertEqual(found_in(main_with("call void f(i16 1) !1", more=more)), [("main", 0, 0, "count"), ("main", 0, 0, "kind")])
        self.assertEqual(found_in(main_with("call void f() !1 $3 = call i32 get(null) !1", more=more)),
                         [("main", 0, 0, "count"), ("main", 0, 1, "count")])
        self.assertEqual(found_in("export main i32 { 0(): br 1() 1($1 i8): br 1($1, $1) }"), [("main", 0, 0, "count"), ("main", 1, 0, "count")])
        gep = (1, "gep", "ptr", (("null",), ("int", "i64", 1)), (0,), -1)
        module = ((), (("main", "i32", False, ((0, (), (gep,), ("ret", ("int", "i32", 0))),)),))
        self.assertEqual(faults(module), [("main", 0, 0, "count")])

    def test_cases(self):
        for values, good in (((), True), ((1,), True), ((1, 2), True), ((1, 1), False), ((2, 1), False), ((1, 3, 2), False)):
            cases = tuple((value, (1, ())) for value in values)
            blocks = ((0, (), (), ("switch", ("int", "i8", 0), cases, (1, ()))), (1, (), (), ("stop", 0)))
            self.assertEqual(faults(((), (("main", "i32", False, blocks),))), [] if good else [("main", 0, 0, "cases")])

    def test_order(self):
        self.assertEqual(found_in(main_with("$1 = add i8 $1, i8 1 $2 = add i8 $3, i8 1 $3 = add i8 $2, $1")),
                         [("main", 0, 0, "order"), ("main", 0, 1, "order")])
        # Not in a block that is not reached, and not of a name that all paths pass.
        self.assertEqual(found_in("export main i32 { 0(): ret i32 0 1(): $1 = add i8 $1, $2 $2 = add i8 $3, $1 br 2() 2($3 i8): br 2($1) }"),
                         [("main", 1, 2, "count")])
        self.assertEqual(found_in("export main i32 { 0(): br 1(i8 0) 1($1 i8): $2 = add i8 $1, i8 1 br 2() 2(): $3 = add i8 $2, $1 br 1($3) }"), [])
        self.assertEqual(found_in("export main i32 { 0(): condbr i1 0, 1(), 2() 1(): $1 = alloca 4 br 2() 2(): kill $1 ret i32 0 }"),
                         [("main", 2, 0, "order")])
        self.assertEqual(found_in("export main i32 { 0(): br 2() 1(): $1 = alloca 4 br 2() 2(): kill $1 ret i32 0 }"), [("main", 2, 0, "order")])
        self.assertEqual(found_in("export main i32 { 0(): br 1($2) 1($1 i8): $2 = add i8 $1, i8 1 br 1($2) }"), [("main", 0, 0, "order")])

    def test_order_of_the_list(self):
        text = ("global g 1 global g 2 export f i8 { 5(): ret i16 $1 3(): stop !1 5(): stop !1 } "
                "export f i8 { 0(): $1 = add i8 $2, null ret null } export main i8 { 0(): ret i8 0 }")
        text = text.replace("ret i16 $1", "ret i16 1")
        self.assertEqual(found_in(text), [
            ("g", -1, -1, "name"), ("f", 5, 0, "kind"), ("f", 5, -1, "label"), ("f", -1, -1, "name"),
            ("f", 0, 0, "kind"), ("f", 0, 0, "unknown"), ("f", 0, 1, "kind"), ("", -1, -1, "main")])

    def test_function_faults(self):
        module = parse_module("export f void { 0(): ret null } export f i8 { 0(): br 1() 0(): ret $1 }")
        self.assertEqual(function_faults(module, module[1][0]), [("f", 0, 0, "kind")])
        self.assertEqual(function_faults(module, module[1][1]), [("f", 0, 0, "unknown"), ("f", 0, -1, "label")])
        self.assertEqual(faults(module), [("f", 0, 0, "kind"), ("f", -1, -1, "name"), ("f", 0, 0, "unknown"), ("f", 0, -1, "label"),
                                          ("", -1, -1, "main")])


class Breaker:
    """Breaks a module that has no faults in a few places."""

    def __init__(self, rnd):
        self.rnd = rnd

    def operand(self, operand):
        rnd = self.rnd
        if rnd.random() > 0.08:
            return operand
        kind = rnd.choice(INTEGERS)
        return rnd.choice((("name", rnd.randrange(30)), ("name", rnd.randrange(30)), ("int", kind, 1), ("null",), ("global", "g9")))

    def number(self, value, top):
        return self.rnd.randrange(-1, top) if self.rnd.random() < 0.03 else value

    def edge(self, edge):
        label, args = edge
        if self.rnd.random() < 0.05:
            args = args[1:] if self.rnd.random() < 0.5 else args + (("null",),)
        return (self.rnd.randrange(40) if self.rnd.random() < 0.03 else label, tuple(map(self.operand, args)))

    def instruction(self, row):
        name, op, kind, operands, data, place = row
        if op == "call" and self.rnd.random() < 0.2:
            data = (self.rnd.choice(("nobody", "get", "f", "h", "main")),)
        if op == "call" and self.rnd.random() < 0.1:
            operands = operands + (("null",),)
        if op not in ("gep", "alloca", "kill", "icmp", "select") and self.rnd.random() < 0.05:
            kind = self.rnd.choice(INTEGERS)
        if op == "icmp" and self.rnd.random() < 0.1:
            data, kind = ("ult",), self.rnd.choice(KINDS)
        return (self.number(name, 20), op, kind, tuple(map(self.operand, operands)), data, self.number(place, 2))

    def end(self, end):
        if end[0] == "br":
            return ("br", self.edge(end[1]))
        if end[0] == "condbr":
            return ("condbr", self.operand(end[1]), self.edge(end[2]), self.edge(end[3]))
        if end[0] == "switch":
            cases = [(self.number(value, 400) % 1000, self.edge(edge)) for value, edge in end[2]]
            return ("switch", self.operand(end[1]), tuple(cases), self.edge(end[3]))
        if end[0] == "ret" and self.rnd.random() < 0.2:
            return ("ret", self.rnd.choice((None, ("int", "i8", 0), ("name", 3))))
        return end

    def block(self, block):
        label, params, body, end = block
        params = tuple((self.number(name, 20) % 1000, kind) for name, kind in params)
        label = self.rnd.randrange(40) if self.rnd.random() < 0.03 else label
        return (label, params, tuple(map(self.instruction, body)), self.end(end))

    def module(self, module):
        functions = []
        for name, kind, internal, blocks in module[1]:
            name = self.rnd.choice(("f", "main", "g0")) if self.rnd.random() < 0.1 else name
            kind = self.rnd.choice(KINDS) if self.rnd.random() < 0.1 else kind
            functions.append((name, kind, internal, tuple(map(self.block, blocks))))
        return (module[0], tuple(functions))


class OracleTest(unittest.TestCase):

    def test_broken_modules(self):
        codes = set()
        for seed in range(500):
            rnd = random.Random(seed)
            module = Breaker(rnd).module(Maker(rnd).module())
            before = copy.deepcopy(module)
            told = faults(module)
            self.assertEqual(told, expected_faults(module), show_module(module))
            self.assertEqual(module, before)
            self.assertEqual(is_valid(module), told == [])
            codes.update(fault[3] for fault in told)
            for function in module[1]:
                expected = list(dict.fromkeys(Oracle(module, function).faults()))
                self.assertEqual(function_faults(module, function), expected)
                self.assertEqual(dict(definitions(function)).keys(), kinds_of(function).keys())
        self.assertEqual(codes, {"name", "main", "label", "entry", "twice", "result", "place", "unknown", "kind", "count", "cases", "order"})


if __name__ == "__main__":
    unittest.main()
