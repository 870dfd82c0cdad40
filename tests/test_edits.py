"""Promises 7.2 and 7.3: names and labels, uses, availability, closed blocks."""

import copy
import random
import unittest

from burnish.edits import (
    Scope, are_new_labels, are_new_names, block_names, defined_names, edge_at, incoming, is_closed, is_pure, replace_uses, uses,
)
from burnish.faults import faults
from burnish.parse import parse_module
from burnish.records import edges, end_operands
from samples import Maker
from shaped import Shaper
from test_bounds import big_function, shallow
from test_effects import targets

TEXT = """global g 1 2 3 4
export main i32 {
0():
  $0 = call i32 get() !1
  $1 = icmp eq i32 $0, i32 0
  condbr $1, 1($0, $0), 2()
1($2 i32, $3 i32):
  $4 = add i32 $2, $0
  $5 = add i32 $4, $4
  switch $5, 1: 3($5), 2: 1($5, $0), else 3($4)
2():
  br 3($0)
3($6 i32):
  $7 = add i32 $6, i32 1
  store i32 $7, @g !2
  ret $0
4($8 i32):
  $9 = add i32 $9, $7
  br 5()
5():
  br 4($9)
}
"""
MODULE = parse_module(TEXT)
MAIN = MODULE[1][0]


def slow_dominates(function, a, b):
    """Tell whether every path from the entry to b contains a; b is reached."""
    seen, waiting = set(), [function[3][0][0]] if function[3][0][0] != a else []
    while waiting:
        label = waiting.pop()
        if label not in seen:
            seen.add(label)
            waiting += [to for to in targets(function[3], label) if to != a]
    return b not in seen


def is_reached(function, label):
    return not slow_dominates(function, None, label)


def slow_strictly(function, a, b):
    if a == b:
        return False
    return not is_reached(function, b) or is_reached(function, a) and slow_dominates(function, a, b)


def slow_available(function, name, label, k):
    if not is_reached(function, label):
        return True
    for block in function[3]:
        made = [n for n, _ in block[1]] + [row[0] for row in block[2][:k] if block[0] == label] + ([row[0] for row in block[2]] if block[0] != label else [])
        if name in made:
            return block[0] == label or slow_strictly(function, block[0], label)
    return False


def slow_uses(function, name):
    found = []
    for label, _, body, end in function[3]:
        for at, row in enumerate(body):
            found += [(label, at, k) for k, operand in enumerate(row[3]) if operand == ("name", name)]
        found += [(label, len(body), k) for k, operand in enumerate(end_operands(end)) if operand == ("name", name)]
    return found


class EditsTest(unittest.TestCase):

    def test_the_sample_has_no_faults(self):
        self.assertEqual(faults(MODULE), [])

    def test_incoming(self):
        self.assertEqual(incoming(MAIN, 3), [(1, 0), (1, 2), (2, 0)])
        self.assertEqual(incoming(MAIN, 1), [(0, 0), (1, 1)])
        self.assertEqual(incoming(MAIN, 0), [])
        self.assertEqual(incoming(MAIN, 4), [(5, 0)])
        backwards = MAIN[:3] + (MAIN[3][:1] + MAIN[3][:0:-1],)
        self.assertEqual(incoming(backwards, 3), [(1, 0), (1, 2), (2, 0)])

    def test_edge_at(self):
        self.assertEqual(edge_at(MAIN, 0, 0), (1, (("name", 0), ("name", 0))))
        self.assertEqual(edge_at(MAIN, 1, 2), (3, (("name", 4),)))
        for label, slot in ((0, 2), (0, -1), (3, 0), (9, 0), (1, 3)):
            self.assertIsNone(edge_at(MAIN, label, slot))

    def test_names(self):
        self.assertEqual(block_names(MAIN[3][1]), [2, 3, 4, 5])
        self.assertEqual(block_names(MAIN[3][3]), [6, 7])
        self.assertEqual(defined_names(MAIN), list(range(10)))

    def test_uses(self):
        self.assertEqual(uses(MAIN, 0), [(0, 1, 0), (0, 2, 1), (0, 2, 2), (1, 0, 1), (1, 2, 3), (2, 0, 0), (3, 2, 0)])
        self.assertEqual(uses(MAIN, 4), [(1, 1, 0), (1, 1, 1), (1, 2, 4)])
        self.assertEqual(uses(MAIN, 9), [(4, 0, 0), (5, 0, 0)])
        self.assertEqual(uses(MAIN, 3), [])
        self.assertEqual(uses(MAIN, 77), [])

    def test_new_names(self):
        for names in ((), (10,), (11, 10), (10 ** 9 - 1,), [10]):
            self.assertIs(are_new_names(MAIN, names), True, names)
        for names in ((0,), (9,), (10, 3), (10, 10), (-1,), (10 ** 9,), (10, 10 ** 9)):
            self.assertIs(are_new_names(MAIN, names), False, names)
        for labels in ((), (6,), (9, 8), (10 ** 9 - 1,), [7]):
            self.assertIs(are_new_labels(MAIN, labels), True, labels)
        for labels in ((0,), (5,), (6, 4), (6, 6), (-1,), (10 ** 9,)):
            self.assertIs(are_new_labels(MAIN, labels), False, labels)

    def test_replace_uses(self):
        text = TEXT.replace("$4 = add i32 $2", "$4 = add i32 i32 7").replace("$4, $4", "$4, $4")
        self.assertEqual(replace_uses(MAIN, 2, ("int", "i32", 7)), parse_module(text)[1][0])
        changed = replace_uses(MAIN, 0, ("name", 6))
        self.assertEqual(uses(changed, 0), [])
        self.assertEqual(len(uses(changed, 6)), 8)
        self.assertEqual(defined_names(changed), defined_names(MAIN))
        self.assertEqual(replace_uses(MAIN, 3, ("null",)), MAIN)
        self.assertEqual(changed[3][1][3], ("switch", ("name", 5), ((1, (3, (("name", 5),))), (2, (1, (("name", 5), ("name", 6))))), (3, (("name", 4),))))
        self.assertEqual(changed[3][3][3], ("ret", ("name", 6)))

    def test_closed(self):
        self.assertEqual([is_closed(MAIN, label) for label in range(6)], [False, True, True, False, False, True])
        # The own arguments count as the own end, also for an edge to the block itself.
        self.assertIs(is_closed(replace_uses(MAIN, 9, ("null",)), 4), True)
        self.assertIs(is_closed(replace_uses(MAIN, 7, ("int", "i32", 1)), 3), True)
        self.assertIs(is_closed(parse_module("export main i32 { 0(): br 1(i32 1) 1($0 i32): br 1($0) }")[1][0], 1), True)

    def test_pure(self):
        for op in ("add", "sub", "mul", "and", "or", "xor", "shl", "lshr", "ashr", "icmp", "select", "trunc", "zext", "sext", "gep"):
            self.assertIs(is_pure((0, op, "i8", (), (), -1)), True)
        for op in ("udiv", "sdiv", "urem", "srem", "alloca", "load", "store", "kill", "call"):
            self.assertIs(is_pure((0, op, "i8", (), (), -1)), False)


class ScopeTest(unittest.TestCase):

    def test_reaches_and_strictly(self):
        scope = Scope(MAIN)
        self.assertEqual([scope.reaches(label) for label in range(7)], [True] * 4 + [False] * 3)
        self.assertEqual([label for label in range(6) if scope.strictly(0, label)], [1, 2, 3, 4, 5])
        self.assertEqual([label for label in range(6) if scope.strictly(1, label)], [4, 5])
        # In a block that no path reaches, every other one strictly dominates it.
        self.assertEqual([label for label in range(6) if scope.strictly(4, label)], [5])
        self.assertEqual([label for label in range(6) if scope.strictly(label, 5)], [0, 1, 2, 3, 4])
        self.assertIs(scope.strictly(3, 3), False)

    def test_available(self):
        scope = Scope(MAIN)
        for operand in (("null",), ("int", "i8", 1), ("global", "g")):
            self.assertIs(scope.available(operand, 0, 0), True)
            self.assertIs(scope.outer(operand, 0), True)
        self.assertIs(scope.available(("name", 0), 0, 0), False)
        self.assertIs(scope.available(("name", 0), 0, 1), True)
        self.assertIs(scope.available(("name", 0), 3, 0), True)
        self.assertIs(scope.available(("name", 2), 1, 0), True)
        self.assertIs(scope.available(("name", 2), 3, 0), False)
        self.assertIs(scope.available(("name", 5), 1, 1), False)
        self.assertIs(scope.available(("name", 5), 1, 2), True)
        self.assertIs(scope.available(("name", 8), 3, 0), False)
        for label in (0, 3, 4):
            self.assertIs(scope.available(("name", 77), label, 0), False)
            self.assertIs(scope.outer(("name", 77), label), False)
        for name in range(10):
            self.assertIs(scope.available(("name", name), 4, 0), True)
            self.assertIs(scope.available(("name", name), 5, 0), True)

    def test_outer(self):
        scope = Scope(MAIN)
        self.assertEqual([label for label in range(6) if scope.outer(("name", 0), label)], [1, 2, 3, 4, 5])
        self.assertEqual([label for label in range(6) if scope.outer(("name", 2), label)], [4, 5])
        self.assertEqual([label for label in range(6) if scope.outer(("name", 9), label)], [5])

    def test_random_functions(self):
        for seed in range(120):
            rnd = random.Random(seed)
            module = Maker(rnd, blocks=8).module() if seed % 2 else Shaper(rnd, statements=3, depth=1).module()
            for function in module[1]:
                before = copy.deepcopy(function)
                scope = Scope(function)
                labels = [block[0] for block in function[3]]
                names = defined_names(function)
                for a in labels:
                    self.assertEqual(scope.reaches(a), is_reached(function, a))
                    for b in labels:
                        self.assertEqual(scope.strictly(a, b), slow_strictly(function, a, b))
                for block in function[3]:
                    inside = {name for name in block_names(block) for at, _, _ in slow_uses(function, name) if at != block[0]}
                    self.assertEqual(is_closed(function, block[0]), not inside)
                    self.assertEqual(incoming(function, block[0]), sorted(
                        (other[0], slot) for other in function[3] for slot, edge in enumerate(edges(other[3])) if edge[0] == block[0]))
                for name in rnd.sample(names, min(len(names), 8)):
                    self.assertEqual(uses(function, name), slow_uses(function, name))
                    label = rnd.choice(labels)
                    k = rnd.randrange(5)
                    self.assertEqual(scope.available(("name", name), label, k), slow_available(function, name, label, k))
                    maker = [block[0] for block in function[3] if name in block_names(block)][0]
                    self.assertEqual(scope.outer(("name", name), label), slow_strictly(function, maker, label))
                self.assertEqual(function, before)

    def test_greatest_function(self):
        function = big_function()
        scope = shallow(lambda: Scope(function))
        self.assertIs(scope.available(("name", 5), 1999, 0), True)
        self.assertIs(scope.strictly(0, 1999), True)
        self.assertEqual(len(shallow(lambda: uses(replace_uses(function, 3, ("name", 4)), 4))), len(uses(function, 3)) + len(uses(function, 4)))
        self.assertIs(shallow(lambda: is_closed(function, 1999)), True)


if __name__ == "__main__":
    unittest.main()
