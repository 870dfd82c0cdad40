"""Promises 4.6 to 4.15: steps, runs and their results."""

import copy
import random
import unittest

from burnish.faults import faults
from burnish.parse import parse_module
from burnish.run import Machine, run, same_run, visits
from burnish.steps import operand_value, start, step
from reference import Interpreter
from samples import TEXT, Maker

NONE = ("none",)
EXAMPLE_1 = ((("g", False, (0,) * 8),), (("main", "i32", False, ((0, (), (
    (0, "alloca", "ptr", (), (8,), -1), (-1, "store", "ptr", (("global", "g"), ("name", 0)), (), 1),
    (-1, "store", "i8", (("int", "i8", 7), ("name", 0)), (), 2), (1, "load", "ptr", (("name", 0),), (), 5)),
    ("ret", ("int", "i32", 0))),)),))
EXAMPLE_2 = ((), (("main", "i32", False, (
    (3, (), (), ("br", (0, ()))),
    (0, (), ((0, "call", "i32", (), ("get",), 1), (1, "icmp", "i32", (("name", 0), ("int", "i32", 4294967295)), ("eq",), -1)),
     ("condbr", ("name", 1), (1, ()), (2, (("name", 0),)))),
    (1, (), (), ("ret", ("int", "i32", 3))),
    (2, ((2, "i32"),), ((-1, "call", "void", (("name", 2),), ("put",), 2),), ("br", (0, ()))))),))
LOOP = parse_module("""
internal half i32 { 0($0 i32): $1 = alloca 4 store i32 $0, $1 !1 $2 = load i32 $1 !2 $3 = lshr i32 $2, i32 1 ret $3 }
internal note void { 0($0 i32): call void put($0) !3 ret }
export main i32 { 0(): $9 = call i32 get() !4 br 1($9)
1($0 i32): $1 = icmp eq i32 $0, i32 0 condbr $1, 2(), 3()
3(): call void note($0) !5 $2 = call i32 half($0) !6 br 1($2)
2(): ret i32 42 }""")


def module_of(rows, end="ret i32 7", more=""):
    module = parse_module(more + " export main i32 { 0(): " + rows + " " + end + " }")
    assert faults(module) == [], faults(module)
    return module


def values_behind(rows, data=(), more=""):
    """Return the values of main at its end, where each instruction takes one step."""
    module = module_of(rows, more=more)
    machine = Machine(module, data)
    machine.go(fuel=100)
    return machine.state[0][0][3]


def end_of(rows, data=(), end="ret i32 7", more=""):
    return run(module_of(rows, end, more), data, fuel=1000)[1]


class StepTest(unittest.TestCase):

    def test_start(self):
        module = parse_module(TEXT)
        self.assertEqual(start(module), ((("main", 0, 0, {}, ()),), (("global", True, (7, 0, 0, 0)), ("constant", True, (255,))), 0, (), NONE))
        self.assertEqual(start(EXAMPLE_2)[0], (("main", 3, 0, {}, ()),))

    def test_operand_value(self):
        module = parse_module(TEXT)
        frame = ("main", 0, 0, {4: 9, 5: ("at", 1, 2)}, ())
        self.assertEqual(operand_value(module, frame, ("int", "i8", 200)), 200)
        self.assertEqual(operand_value(module, frame, ("null",)), ("null",))
        self.assertEqual(operand_value(module, frame, ("name", 4)), 9)
        self.assertEqual(operand_value(module, frame, ("name", 5)), ("at", 1, 2))
        self.assertEqual(operand_value(module, frame, ("global", "g")), ("at", 0, 0))
        self.assertEqual(operand_value(module, frame, ("global", "h")), ("at", 1, 0))

    def test_each_step_of_random_modules(self):
        for seed in range(250):
            module = Maker(random.Random(seed)).module()
            data = [seed % 256, 65, 0][:seed % 4]
            other = Interpreter(module, data)
            machine = Machine(module, data)
            state = start(module)
            self.assertEqual(state, other.frozen())
            for count in range(60):
                if other.end != NONE:
                    break
                before = copy.deepcopy(state)
                behind = step(module, data, state)
                self.assertEqual(state, before)
                other.step()
                machine.go(fuel=1)
                self.assertEqual(behind, other.frozen(), (seed, count))
                self.assertEqual(machine.state, behind)
                for frame, old in zip(behind[0], state[0]):
                    self.assertIsNot(frame[3], old[3])
                state = behind
            if other.end != NONE:
                self.assertIs(step(module, data, state), state)

    def test_pure_instructions(self):
        rows = """$0 = add i8 i8 250, i8 10 $1 = sub i8 i8 1, i8 2 $2 = mul i16 i16 300, i16 300 $3 = and i8 i8 12, i8 10
            $4 = or i8 i8 12, i8 10 $5 = xor i8 i8 12, i8 10 $6 = shl i8 i8 3, i8 7 $7 = lshr i8 i8 200, i8 3 $8 = ashr i8 i8 200, i8 3
            $9 = icmp slt i8 i8 255, i8 0 $10 = select i8 $9, i8 1, i8 2 $11 = select ptr i1 0, @g, null $12 = trunc i1 i8 3
            $13 = zext i64 i8 200 $14 = sext i16 i8 200 $15 = sext i64 $9 $16 = udiv i8 i8 200, i8 3 !1 $17 = sdiv i8 i8 249, i8 2 !1
            $18 = urem i8 i8 200, i8 3 !1 $19 = srem i8 i8 249, i8 2 !1 $20 = icmp eq ptr @g, @g $21 = icmp ne ptr @g, @h
            $22 = icmp ne ptr null, null $23 = icmp eq ptr null, @g"""
        self.assertEqual(values_behind(rows, more="global g 1 global h 1"), {
            0: 4, 1: 255, 2: 24464, 3: 8, 4: 14, 5: 6, 6: 128, 7: 25, 8: 249, 9: 1, 10: 1, 11: ("null",), 12: 1, 13: 200, 14: 65480,
            15: 2 ** 64 - 1, 16: 66, 17: 253, 18: 2, 19: 255, 20: 1, 21: 1, 22: 0, 23: 0})

    def test_pointers(self):
        rows = """$0 = gep @g, 3, i64 2 * 5, i64 18446744073709551615 * 7 $1 = gep @g, -1 $2 = gep null, 5, i64 1 * 1 $3 = gep $1, 1
            $4 = icmp eq ptr $3, @g $5 = icmp eq ptr $1, @g $6 = gep @g, 0, i64 9223372036854775808 * 2"""
        self.assertEqual(values_behind(rows, more="global g 1"), {
            0: ("at", 0, 6), 1: ("at", 0, 2 ** 64 - 1), 2: ("null",), 3: ("at", 0, 0), 4: 1, 5: 0, 6: ("at", 0, 0)})

    def test_division_traps(self):
        for op in ("udiv", "sdiv", "urem", "srem"):
            for kind in ("i1", "i8", "i64"):
                self.assertEqual(end_of(f"$0 = {op} {kind} {kind} 1, {kind} 0 !77"), ("trap", "divide", 77))

    def test_memory_traps(self):
        for rows in ("$0 = load i8 null !5", "store i8 i8 1, null !5", "$0 = alloca 3 store i32 i32 1, $0 !5", "store i8 i8 1, @c !5",
                     "$0 = load i16 @c !5", "$0 = alloca 4 kill $0 $1 = load i8 $0 !5", "$0 = call ptr malloc(i64 4) !1 call void free($0) !2 "
                     "store i8 i8 1, $0 !5", "$0 = gep @c, -1 $1 = load i8 $0 !5", "$0 = load ptr @p !5", "$0 = alloca 8 store ptr @c, $0 !1 $1 = load i8 $0 !5"):
            self.assertEqual(end_of(rows, more="constant c 1 global p 0 0 0 0 0 0 0 1"), ("trap", "memory", 5), rows)
        self.assertEqual(end_of("$0 = load i8 @c !5 $1 = alloca 4 store i32 i32 9, $1 !6", more="constant c 1"), ("exit", 7))

    def test_alloca_and_owned(self):
        machine = Machine(module_of("$0 = alloca 2 $1 = call ptr malloc(i64 3) !1 $2 = alloca 1"), [])
        machine.go(fuel=3)
        frames, memory, _, _, _ = machine.state
        self.assertEqual(frames[0][3], {0: ("at", 0, 0), 1: ("at", 1, 0), 2: ("at", 2, 0)})
        self.assertEqual(frames[0][4], (0, 2))
        self.assertEqual(memory, (("stack", True, (0, 0)), ("heap", True, (0, 0, 0)), ("stack", True, (0,))))

    def test_kill(self):
        rows = """$0 = alloca 1 $1 = alloca 2 $2 = gep $1, 1 $3 = call ptr malloc(i64 1) !1
            kill $0 kill $0 kill $2 kill $3 kill null kill @g"""
        machine = Machine(module_of(rows, more="global g 1"), [])
        machine.go(fuel=10)
        self.assertEqual([record[1] for record in machine.state[1]], [True, False, True, True])
        self.assertEqual(machine.state[0][0][4], (1, 2))
        self.assertEqual(machine.end, NONE)

    def test_kill_of_an_object_of_another_frame(self):
        module = module_of("$0 = alloca 1 call void f($0) !1 $1 = load i8 $0 !9", more="internal f void { 0($5 ptr): kill $5 ret }")
        self.assertEqual(run(module, [], fuel=9), ([], ("trap", "memory", 9), 5))

    def test_malloc(self):
        rows = "$0 = call ptr malloc(i64 0) !1 $1 = call ptr malloc(i64 4096) !1 $2 = call ptr malloc(i64 4097) !1 $3 = call ptr malloc(i64 1) !1"
        machine = Machine(module_of(rows), [])
        machine.go(fuel=4)
        self.assertEqual(machine.state[0][0][3], {0: ("null",), 1: ("at", 0, 0), 2: ("null",), 3: ("at", 1, 0)})
        self.assertEqual(machine.state[1], (("heap", True, (0,) * 4096), ("heap", True, (0,))))

    def test_free(self):
        self.assertEqual(end_of("call void free(null) !1 $0 = call ptr malloc(i64 1) !1 call void free($0) !1"), ("exit", 7))
        for rows in ("$0 = call ptr malloc(i64 1) !1 call void free($0) !1 call void free($0) !5", "$0 = alloca 1 call void free($0) !5",
                     "call void free(@g) !5", "$0 = call ptr malloc(i64 2) !1 $1 = gep $0, 1 call void free($1) !5"):
            self.assertEqual(end_of(rows, more="global g 1"), ("trap", "memory", 5))

    def test_input_and_output(self):
        rows = "$0 = call i32 get() !1 $1 = call i32 get() !1 $2 = call i32 get() !1 call void put($0) !1 call void put($2) !1 call void put(i32 257) !1"
        self.assertEqual(values_behind(rows, [7, 255]), {0: 7, 1: 255, 2: 2 ** 32 - 1})
        machine = Machine(module_of(rows), (7, 255))
        machine.go(fuel=6)
        self.assertEqual((machine.state[2], machine.state[3], machine.out), (2, (7, 255, 1), [7, 255, 1]))

    def test_exit_and_ret_of_main(self):
        self.assertEqual(end_of("call void exit(i32 300) !1"), ("exit", 44))
        self.assertEqual(end_of("", end="ret i32 4294967295"), ("exit", 255))
        module = module_of("$0 = alloca 1 call void exit(i32 3) !1")
        machine = Machine(module, [])
        machine.go(fuel=1)
        before = machine.state
        machine.go(fuel=1)
        self.assertEqual(machine.state, before[:4] + (("exit", 3),))
        machine = Machine(module_of("$0 = alloca 1"), [])
        machine.go(fuel=9)
        self.assertEqual(machine.state, ((("main", 0, 1, {0: ("at", 0, 0)}, (0,)),), (("stack", True, (0,)),), 0, (), ("exit", 7)))

    def test_stop(self):
        self.assertEqual(end_of("", end="stop !31"), ("trap", "stop", 31))

    def test_a_trap_changes_nothing_else(self):
        for rows in ("$0 = alloca 1 $1 = udiv i8 i8 1, i8 0 !4", "$0 = alloca 1 $1 = load i16 $0 !4", "$0 = alloca 1 call void free($0) !4"):
            module = module_of(rows)
            machine = Machine(module, [])
            machine.go(fuel=1)
            before = machine.state
            self.assertEqual(machine.go(fuel=5), 1)
            self.assertEqual(machine.state[:4], before[:4])
            self.assertEqual(machine.end[0], "trap")

    def test_call_and_return(self):
        more = "internal f i8 { 4($7 i8, $8 ptr): $0 = alloca 2 $1 = alloca 1 store i8 $7, $8 !1 ret i8 77 } internal g void { 0(): ret }"
        module = module_of("$3 = alloca 1 $4 = call i8 f(i8 5, $3) !2 call void g() !3", more=more)
        machine = Machine(module, [])
        machine.go(fuel=2)
        self.assertEqual(machine.state[0], (("main", 0, 2, {3: ("at", 0, 0)}, (0,)), ("f", 4, 0, {7: 5, 8: ("at", 0, 0)}, ())))
        self.assertEqual(machine.depth(), 2)
        machine.go(fuel=3)
        self.assertEqual(machine.state[0][1], ("f", 4, 3, {7: 5, 8: ("at", 0, 0), 0: ("at", 1, 0), 1: ("at", 2, 0)}, (1, 2)))
        machine.go(fuel=1)
        self.assertEqual(machine.state[0], (("main", 0, 2, {3: ("at", 0, 0), 4: 77}, (0,)),))
        self.assertEqual(machine.state[1], (("stack", True, (5,)), ("stack", False, (0, 0)), ("stack", False, (0,))))
        machine.go(fuel=2)
        self.assertEqual(machine.state[0], (("main", 0, 3, {3: ("at", 0, 0), 4: 77}, (0,)),))

    def test_params_of_an_edge_are_given_at_the_same_time(self):
        module = parse_module("export main i32 { 0(): br 1(i8 1, i8 2, i8 0) 1($1 i8, $2 i8, $3 i8): switch $3, 2: 2(), else 3() "
                              "3(): $4 = add i8 $3, i8 1 br 1($2, $1, $4) 2(): ret i32 0 }")
        machine = Machine(module, [])
        machine.go(fuel=5)
        self.assertEqual(machine.state[0][0][3], {1: 2, 2: 1, 3: 1, 4: 1})

    def test_ends(self):
        text = "export main i32 {{ 0(): {} 1(): ret i32 1 2(): ret i32 2 3(): ret i32 3 }}"
        for end, code in (("br 2()", 2), ("condbr i1 1, 1(), 2()", 1), ("condbr i1 0, 1(), 2()", 2), ("switch i8 5, 4: 1(), 5: 2(), else 3()", 2),
                          ("switch i8 6, 4: 1(), 5: 2(), else 3()", 3), ("switch i8 4, else 3()", 3),
                          ("switch i64 18446744073709551615, 18446744073709551615: 1(), else 3()", 1)):
            self.assertEqual(run(parse_module(text.format(end)), [], fuel=5)[1], ("exit", code), end)


class RunTest(unittest.TestCase):

    def test_examples(self):
        self.assertEqual(run(EXAMPLE_1, [], fuel=10), ([], ("trap", "memory", 5), 4))
        self.assertEqual(run(EXAMPLE_2, [65], fuel=100), ([65], ("exit", 3), 10))
        self.assertEqual(run(EXAMPLE_2, [65], fuel=5), ([65], ("none",), 5))

    def test_fuel(self):
        self.assertEqual(run(LOOP, [5], fuel=0), ([], NONE, 0))
        whole = run(LOOP, (5,), fuel=10000)
        self.assertEqual(whole[:2], ([5, 2, 1], ("exit", 42)))
        for fuel in range(whole[2] + 3):
            out, end, steps = run(LOOP, [5], fuel=fuel)
            self.assertEqual(out, whole[0][:len(out)])
            self.assertEqual((end, steps), (whole[1], whole[2]) if fuel >= whole[2] else (NONE, fuel))

    def test_machine_in_pieces(self):
        whole = run(LOOP, [9], fuel=1000)
        data = [9]
        machine = Machine(LOOP, data)
        data[0] = 200
        taken = 0
        for fuel in (0, 1, 2, 3, 5, 8, 1000, 4):
            taken += machine.go(fuel=fuel)
            self.assertEqual(machine.steps, taken)
        self.assertEqual((machine.out, machine.end, machine.steps), whole)
        self.assertEqual(machine.go(), 0)
        self.assertEqual(Machine(LOOP, [0]).go(), 5)
        long = Machine(parse_module("export main i32 { 0(): br 1() 1(): br 1() }"), [])
        self.assertEqual((long.go(), long.go(), long.steps), (1000, 1000, 2000))

    def test_rewind(self):
        machine = Machine(LOOP, [9])
        states = []
        while machine.end == NONE:
            states.append((machine.state, machine.steps, machine.out))
            machine.go(fuel=1)
        last = (machine.state, machine.steps, machine.out)
        for state, steps, out in states[::-3]:
            before = copy.deepcopy(state)
            machine.rewind(state, steps)
            self.assertEqual((machine.state, machine.steps, machine.out, machine.end), (state, steps, out, NONE))
            machine.go(fuel=1000)
            self.assertEqual((machine.state, machine.steps, machine.out), last)
            self.assertEqual(state, before)

    def test_what_a_machine_gives_is_new(self):
        machine = Machine(LOOP, [9])
        machine.go(fuel=7)
        machine.out.append(1)
        self.assertEqual(machine.out, [9][:len(machine.out)])
        state = machine.state
        copied = copy.deepcopy(state)
        machine.go(fuel=20)
        self.assertEqual(state, copied)

    def test_visits(self):
        module = parse_module("internal f void { 5(): br 6() 6(): ret } export main i32 { 0(): call void f() !1 br 1(i8 0) "
                              "1($1 i8): $2 = add i8 $1, i8 1 $3 = icmp eq i8 $2, i8 2 condbr $3, 2(), 1($2) 2(): ret i32 0 }")
        whole = [("main", 0), ("f", 5), ("f", 6), ("main", 1), ("main", 1), ("main", 2)]
        self.assertEqual(list(visits(module, [], fuel=1000)), whole)
        self.assertEqual(list(visits(module, [], fuel=0)), whole[:1])
        self.assertEqual(list(visits(module, [], fuel=1)), whole[:2])
        self.assertEqual(list(visits(module, [], fuel=2)), whole[:3])
        self.assertEqual(list(visits(module, [], fuel=3)), whole[:3])
        self.assertEqual(list(visits(module, [], fuel=4)), whole[:4])
        self.assertEqual(list(visits(parse_module("export main i32 { 0(): br 1() 1(): br 1() }"), [], fuel=3)), [("main", 0)] + [("main", 1)] * 3)
        it = visits(module, [], fuel=10 ** 12)
        self.assertEqual(next(it), ("main", 0))
        self.assertEqual(len(list(it)), 5)

    def test_visits_against_steps(self):
        for seed in range(60):
            module = Maker(random.Random(seed)).module()
            other = Interpreter(module, [1])
            expected = [("main", other.frames[0][1])]
            for _ in range(80):
                depth, edge = len(other.frames), other.frames[-1][2] == len(other.block(*other.frames[-1][:2])[2])
                other.step()
                if other.end != NONE:
                    break
                if len(other.frames) > depth or edge and len(other.frames) == depth:
                    expected.append(tuple(other.frames[-1][:2]))
            self.assertEqual(list(visits(module, [1], fuel=80)), expected)

    def test_same_run(self):
        done, trap = ("exit", 3), ("trap", "stop", 3)
        cases = (
            (([1, 2], done, 5), ([1, 2], done, 9), True), (([1, 2], done, 5), ([1, 2], ("exit", 4), 5), False),
            (([1, 2], done, 5), ([1], done, 5), False), (([1, 2], done, 5), ([1, 2], trap, 5), False),
            (([], trap, 5), ([], ("trap", "stop", 4), 5), False), (([], trap, 5), ([], ("trap", "divide", 3), 5), False),
            (([1, 2], done, 5), ([1], NONE, 5), True), (([1, 2], done, 5), ([1, 2], NONE, 5), True), (([1, 2], done, 5), ([], NONE, 5), True),
            (([1, 2], done, 5), ([1, 2, 3], NONE, 5), False), (([1, 2], done, 5), ([2], NONE, 5), False),
            (([1, 2], NONE, 5), ([1], NONE, 7), True), (([1, 2], NONE, 5), ([1, 2], NONE, 7), True), (([1, 2], NONE, 5), ([1, 3], NONE, 7), False),
            (([], NONE, 0), ([4], NONE, 7), True),
        )
        for first, second, told in cases:
            self.assertIs(same_run(first, second), told, (first, second))
            self.assertIs(same_run(second, first), told, (second, first))
        for seed in range(40):
            module = Maker(random.Random(seed)).module()
            self.assertTrue(same_run(run(module, [2], fuel=50), run(module, [2], fuel=200)))

    def test_deep_calls_and_long_runs(self):
        module = parse_module("internal f i32 { 0($0 i32): $1 = icmp eq i32 $0, i32 0 condbr $1, 1(), 2() 1(): ret i32 1 "
                              "2(): $2 = alloca 4 $3 = sub i32 $0, i32 1 $4 = call i32 f($3) !1 $5 = add i32 $4, i32 1 ret $5 } "
                              "export main i32 { 0(): $0 = call i32 f(i32 20000) !1 ret $0 }")
        machine = Machine(module, [])
        machine.go(fuel=100000)
        self.assertGreater(machine.depth(), 15000)
        machine.go(fuel=1000000)
        self.assertEqual((machine.end, machine.depth()), (("exit", 20001 % 256), 1))


if __name__ == "__main__":
    unittest.main()
