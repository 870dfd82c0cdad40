"""Promises 7.1 and 7.2: a step of the right shape is done or refused wherever it is, and raises nothing."""

import itertools
import random
import unittest

from burnish.check import STEPS, apply_step, check
from burnish.demand import solve_demand
from burnish.effects import solve_effects
from burnish.equations import solve_equations
from burnish.faults import faults
from burnish.forms import has_shape
from burnish.linear import solve_linear
from burnish.memfacts import solve_memory
from burnish.parse import parse_module
from burnish.solve import solve_values
from goodsteps import SHAPES

# One instruction of each op, and one end of each sort.
TEXT = """
global g 1 2 3 4
constant h 7 0 0 0 1
internal f i32 {
0($0 i32, $1 ptr):
  $2 = add i32 $0, i32 1
  ret $2
}
internal v void {
0($0 ptr):
  kill $0
  ret
}
export main i32 {
0():
  $0 = alloca 8
  $1 = gep $0, 4
  $2 = call i32 get() !1
  store i32 $2, $1 !2
  $3 = load i32 $1 !3
  $4 = load i32 @h !4
  $5 = and i32 $3, i32 255
  $6 = udiv i32 $5, i32 3 !5
  $7 = icmp ult i32 $6, i32 9
  $8 = select i32 $7, $5, $6
  $9 = zext i64 $8
  $10 = gep $0, 0, $9 * 1
  $11 = trunc i8 $9
  $12 = sext i32 $11
  call void put($12) !6
  $13 = call i32 f($12, $0) !7
  call void v($0) !8
  kill $0
  $14 = call ptr malloc(i64 8) !9
  store ptr @g, $14 !10
  $15 = icmp eq ptr $14, null
  call void free($14) !11
  condbr $15, 1($13), 2($13)
1($16 i32):
  $17 = or i32 $16, i32 3
  $18 = xor i32 $17, i32 3
  switch $18, 0: 2($17), 5: 1($18), else 3()
2($19 i32):
  br 1($19)
3():
  stop !12
4():
  ret i32 0
}
"""


class Table:
    """The tables of the functions of a module."""

    def __init__(self, module):
        effects = solve_effects(module)
        self.rows = {}
        for function in module[1]:
            values = solve_values(module, function)
            facts = (values, effects, solve_memory(module, function, values, effects))
            self.rows[function[0]] = {
                "V": values, "E": effects, "=": solve_equations(function), "L": solve_linear(function, values),
                "D": solve_demand(function, values), "F": facts,
            }


class EveryPlaceTest(unittest.TestCase):

    def setUp(self):
        self.module = parse_module(TEXT)
        self.assertEqual(faults(self.module), [])
        self.table = Table(self.module)

    def part(self, rnd, sign, name):
        """Return a plain value of the right shape for a part of a step."""
        small = lambda: rnd.choice((-1, 0, 0, 0, 1, 1, 2, 3, 4, 5, 9, 18, 19, 20, 25))
        operand = lambda: rnd.choice((("null",), ("global", "g"), ("global", "x"), ("int", "i32", 3), ("int", "i1", 1), ("int", "i64", 0), ("name", rnd.randrange(22))))
        row = lambda make: tuple(make() for _ in range(rnd.randrange(3)))
        if sign in self.table.rows["f"]:
            return self.table.rows.get(name, self.table.rows["main"])[sign]
        makers = {
            "w": small, "n": lambda: abs(small()), "k": lambda: rnd.choice(("i1", "i8", "i32", "i64", "ptr")), "o": operand, "O": lambda: row(operand),
            "N": lambda: tuple(sorted(row(lambda: abs(small())))), "W": lambda: tuple(sorted(row(small))), "t": lambda: rnd.choice(("main", "f", "v", "g", "h", "x")),
            "P": lambda: tuple(sorted(row(lambda: (small(), small())))), "Q": lambda: tuple(sorted(row(lambda: (abs(small()), abs(small()))))),
            "i": lambda: rnd.choice(((30, "add", "i32", (operand(), operand()), (), -1), (30, "load", "i32", (operand(),), (), 3), (30, "gep", "ptr", (operand(), operand()), (0, 3), -1),
                                     (30, "icmp", "ptr", (operand(), operand()), ("eq",), -1), (30, "icmp", "i32", (operand(), operand()), ("ult",), -1), (30, "trunc", "i8", (operand(),), (), -1))),
        }
        return makers[sign]()

    def look(self, step):
        self.assertIs(has_shape(step), True, step)
        changed = apply_step(self.module, step)
        if changed is None:
            self.assertEqual(check(self.module, (step,)), (None, 0))
        else:
            self.assertEqual(faults(changed), [], step)

    def test_random_parts(self):
        rnd = random.Random(5)
        for word in sorted(STEPS):
            for _ in range(150):
                name = rnd.choice(("main", "main", "main", "f", "v", "x"))
                parts = [self.part(rnd, sign, name) for sign in SHAPES[word]]
                if word not in ("fix_global", "drop_global"):
                    parts[0] = name
                self.look((word,) + tuple(parts))

    def test_each_place(self):
        rnd = random.Random(6)
        for word in sorted(STEPS):
            signs = SHAPES[word]
            at = signs.find("ww")
            if at < 0:
                continue
            for label, k in itertools.product((0, 1, 2, 3, 4, 5), range(-2, 25)):
                parts = [self.part(rnd, sign, "main") for sign in signs]
                parts[0] = "main"
                parts[at:at + 2] = [label, k]
                if word in ("rule", "ranged_rule"):
                    for number in list(range(1, 71)) + list(range(101, 113)):
                        self.look((word,) + tuple(parts[:-2]) + (number, ()))
                self.look((word,) + tuple(parts))

    def test_each_name(self):
        for name in range(22):
            values, demand = [self.table.rows["main"][sign] for sign in "VD"]
            for step in (("ranges", "main", values, (name,)), ("undemanded", "main", values, demand, (name,)), ("drop_names", "main", (name,)), ("drop_kills", "main", name),
                         ("as_condbr", "main", 1, name)):
                self.look(step)
            for other in range(22):
                self.look(("prefer", "main", name, other))
                self.look(("equal", "main", self.table.rows["main"]["="], ((name, other),)))

    def test_each_row_of_places(self):
        facts = self.table.rows["main"]["F"]
        for word in ("forward", "delete_load", "same_store", "unread_store"):
            for label, k in itertools.product((0, 1, 2, 3, 4, 5), range(-2, 25)):
                self.look((word, "main", facts, ((label, k),)))
        for k, j in itertools.product(range(-2, 25), range(-2, 25)):
            self.look(("dead_store", "main", facts, 0, k, j))


if __name__ == "__main__":
    unittest.main()
