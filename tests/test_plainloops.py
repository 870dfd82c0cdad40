"""Promises 9.20, 9.21, 9.22 and 9.26: simple loops, plain, close and rotate."""

import random
import unittest

from burnish.check import apply_step, check
from burnish.edits import incoming, is_closed, uses
from burnish.faults import faults
from burnish.graph import definition_places, graph_of, live_names, reverse_postorder
from burnish.loops import loop_exits, loops, preheader
from burnish.plainloops import close, plain, rotate, simple_loops
from burnish.records import find_block, find_function, new_label, new_name
from burnish.run import run
from burnish.scopes import kinds_of, reached
from passing import PassCase, mixed, random_module
from samples import Maker
from test_bounds import shallow

# A counted loop with a header, a body and a block behind it.
LOOP = "0(): $0 = call i32 get() !1 br 1(i32 0) 1($1 i32): $2 = icmp ult i32 $1, $0 condbr $2, 2(), 3() 2(): call void put($1) !2 $3 = add i32 $1, i32 1 br 1($3) 3(): ret $1"


def branchy(seed):
    """Return a module whose graph has many edges, often back."""
    rnd = random.Random(seed)
    module = Maker(rnd, blocks=rnd.randrange(4, 10), rows=rnd.randrange(0, 3)).module()
    return mixed(rnd, module) if seed % 4 == 1 else module


def slow_simple(function):
    """Return the simple loops, by the words of the document."""
    graph = graph_of(function)
    targets = dict(graph)
    found = []
    for loop in loops(graph):
        header, labels, latches, _, _ = loop
        if preheader(graph, loop) == -1 or len(latches) != 1 or targets[latches[0]].count(header) != 1:
            continue
        inner = set(labels) - {header}
        around = False
        for label in inner:
            seen, waiting = set(), [target for target in targets[label] if target in inner]
            while waiting:
                at = waiting.pop()
                if at not in seen:
                    seen.add(at)
                    waiting.extend(target for target in targets[at] if target in inner)
            around = around or label in seen
        if not around:
            found.append(loop)
    return found


def is_plain(function):
    """Tell whether all loops have the form of [9.21]."""
    graph = graph_of(function)
    targets = dict(graph)
    for loop in loops(graph):
        header, labels, latches, _, _ = loop
        if preheader(graph, loop) == -1 or len(latches) != 1 or targets[latches[0]].count(header) != 1:
            return False
        for _, _, target in loop_exits(graph, loop):
            if any(target in row and label not in labels for label, row in graph):
                return False
    return True


def slow_plain(module, name, amount):
    """Return the steps of plain, by the words of the document."""
    found = []

    def emit(step):
        nonlocal module
        found.append(step)
        module = apply_step(module, step)

    def function():
        return find_function(module, name)

    def gather(target, told):
        if len([step for step in found if step[0] == "gather"]) < amount:
            params = find_block(function(), target)[1]
            first = new_name(function())
            emit(("gather", name, new_label(function()), tuple(range(first, first + len(params))), tuple(told)))

    if len(reached(function())) < len(function()[3]):
        emit(("prune", name))
    for header in [loop[0] for loop in loops(graph_of(function()))]:
        graph = graph_of(function())
        loop = [row for row in loops(graph) if row[0] == header][0]
        if preheader(graph, loop) == -1:
            gather(header, [place for place in incoming(function(), header) if place[0] not in loop[1]])
        back = [place for place in incoming(function(), header) if place[0] in loop[1]]
        if len(back) != 1:
            gather(header, back)
    while len([step for step in found if step[0] == "gather"]) < amount:
        graph = graph_of(function())
        pairs = []
        for loop in loops(graph):
            for _, _, target in loop_exits(graph, loop):
                if any(target in row and label not in loop[1] for label, row in graph):
                    pairs.append((-loop[4], loop[0], target, loop))
        if not pairs:
            break
        _, _, target, loop = min(pairs)
        gather(target, [place for place in incoming(function(), target) if place[0] in loop[1]])
    return tuple(found)


def slow_close(module, name, amount):
    """Return the steps of close, by the words of the document."""
    found = []

    def emit(step):
        nonlocal module
        found.append(step)
        module = apply_step(module, step)

    def function():
        return find_function(module, name)

    if len(reached(function())) < len(function()[3]):
        emit(("prune", name))
    for loop in slow_simple(function())[:amount]:
        for label in [label for label in reverse_postorder(graph_of(function())) if label in loop[1]]:
            names = [known for known, place in definition_places(function()).items() if place[0] == label]
            for known in sorted(names):
                if all(place[0] == label for place in uses(function(), known)):
                    continue
                labels = sorted(at for at, living in live_names(function()).items() if known in living)
                pairs = []
                for at in labels:
                    pairs.append((at, len(find_block(function(), at)[1])))
                    passed = (("name", known),) * len(incoming(function(), at))
                    emit(("add_param", name, at, new_name(function()), kinds_of(function())[known], passed))
                emit(("use_params", name, tuple(pairs)))
    return tuple(found)


class SimpleTest(PassCase):

    def headers(self, text):
        return [loop[0] for loop in simple_loops(self.module(text)[1][-1])]

    def test_simple(self):
        self.assertEqual(simple_loops(self.module(LOOP)[1][-1]), [(1, (1, 2), (2,), -1, 1)])
        # No preheader: two edges from outside, or an edge beside it.
        self.assertEqual(self.headers(LOOP.replace("br 1(i32 0)", "condbr i1 1, 1(i32 0), 1(i32 1)")), [])
        self.assertEqual(self.headers(LOOP.replace("br 1(i32 0)", "condbr i1 1, 1(i32 0), 3()").replace("3(): ret $1", "3(): ret i32 0")), [])
        self.assertEqual(self.headers(LOOP.replace("br 1(i32 0)", "switch $0, else 1(i32 0)")), [1])
        # Two latches, or one with two edges.
        self.assertEqual(self.headers(LOOP.replace("br 1($3)", "condbr $2, 1($3), 1($1)")), [])
        self.assertEqual(self.headers(LOOP.replace("br 1($3)", "condbr $2, 1($3), 4() 4(): br 1($1)")), [])
        self.assertEqual(self.headers(LOOP.replace("br 1($3)", "condbr $2, 1($3), 3()")), [1])
        # A loop in the loop, and a cycle in it that has no header.
        self.assertEqual(self.headers(LOOP.replace("br 1($3)", "br 4() 4(): condbr $2, 4(), 1($3)")), [4])
        self.assertEqual(self.headers(LOOP.replace("br 1($3)", "br 4() 4(): br 5() 5(): condbr $2, 5(), 1($3)")), [5])
        self.assertEqual(self.headers(LOOP.replace("br 1($3)", "condbr $2, 4(), 5() 4(): condbr $2, 5(), 1($3) 5(): br 4()")), [])

    def test_random(self):
        found = 0
        for seed in range(300):
            for function in (branchy(seed) if seed % 2 else random_module(seed))[1]:
                self.assertEqual(simple_loops(function), slow_simple(function))
                found += len(slow_simple(function))
        self.assertGreater(found, 50)


class PlainTest(PassCase):

    def test_preheader_and_latch(self):
        self.leaves(plain, LOOP)
        text = "0(): $0 = call i32 get() !1 $9 = icmp eq i32 $0, i32 0 condbr $9, 1(i32 0), 1(i32 3) 1($1 i32): $2 = icmp ult i32 $1, i32 9 condbr $2, 2(), 3() 2(): $3 = add i32 $1, i32 1 condbr $9, 1($3), 1($0) 3(): ret $1"
        due = ("0(): $0 = call i32 get() !1 $9 = icmp eq i32 $0, i32 0 condbr $9, 4(i32 0), 4(i32 3) 1($1 i32): $2 = icmp ult i32 $1, i32 9 condbr $2, 2(), 3() 2(): $3 = add i32 $1, i32 1 condbr $9, 5($3), 5($0) 3(): ret $1 "
               "4($10 i32): br 1($10) 5($11 i32): br 1($11)")
        certificate = self.leads(plain, text, due)
        self.assertEqual(certificate, (("gather", "main", 4, (10,), ((0, 0), (0, 1))), ("gather", "main", 5, (11,), ((2, 0), (2, 1)))))
        module = self.module(text + " 8(): ret i32 0")
        for amount, count in ((0, 1), (1, 2), (2, 3), (5, 3)):
            self.assertEqual(len(self.passed(plain, module, amount=amount)[0]), count)

    def test_exits(self):
        # Block 3 is a target of the loop and of the entry.
        text = "0(): $0 = call i32 get() !1 $9 = icmp eq i32 $0, i32 0 condbr $9, 4(), 3() 4(): br 1() 1(): $1 = call i32 get() !2 $2 = icmp eq i32 $1, i32 1 condbr $2, 1(), 3() 3(): ret i32 0"
        self.leads(plain, text, text.replace("condbr $2, 1(), 3()", "condbr $2, 1(), 5()") + " 5(): br 3()")
        # Two exits to one label are gathered together.
        text = "0(): $0 = call i32 get() !1 $9 = icmp eq i32 $0, i32 0 condbr $9, 4(), 3() 4(): br 1() 1(): $1 = call i32 get() !2 $2 = icmp eq i32 $1, i32 1 condbr $2, 2(), 3() 2(): $3 = icmp eq i32 $0, $1 condbr $3, 3(), 1() 3(): ret i32 0"
        certificate = self.passed(plain, self.module(text))[0]
        self.assertEqual(certificate, (("gather", "main", 5, (), ((1, 1), (2, 0))),))

    def test_nested(self):
        text = "0(): br 1() 1(): $0 = call i32 get() !1 $1 = icmp eq i32 $0, i32 0 condbr $1, 2(), 3() 2(): $2 = call i32 get() !2 $3 = icmp eq i32 $2, i32 0 condbr $3, 2(), 1() 3(): ret i32 0"
        certificate, changed = self.passed(plain, self.module(text))
        self.assertTrue(is_plain(changed[1][0]))
        self.assertEqual(certificate, slow_plain(self.module(text), "main", 1000))

    def test_cycles_without_header(self):
        # A cycle that is entered at two blocks is no loop.
        text = "0(): $0 = call i32 get() !1 $1 = icmp eq i32 $0, i32 0 condbr $1, 1(), 2() 1(): $2 = call i32 get() !2 $3 = icmp eq i32 $2, i32 0 condbr $3, 2(), 3() 2(): br 1() 3(): ret i32 0"
        self.leaves(plain, text)
        self.leaves(close, text)
        self.leaves(rotate, text)

    def test_random(self):
        found = 0
        for seed in range(300):
            module = branchy(seed) if seed % 2 else random_module(seed)
            for function in module[1]:
                name = function[0]
                certificate, changed = self.passed(plain, module, name)
                self.assertEqual(certificate, slow_plain(module, name, 1000))
                self.assertTrue(is_plain(find_function(changed, name)))
                self.assertEqual(plain(changed, name), ())
                self.assertEqual(plain(module, name, amount=1), slow_plain(module, name, 1))
                found += len(certificate)
        self.assertGreater(found, 300)
        self.joined(plain, range(15))


class CloseTest(PassCase):

    def test_loop(self):
        certificate = self.leads(close, LOOP, "0(): $0 = call i32 get() !1 br 1(i32 0) 1($1 i32): $2 = icmp ult i32 $1, $0 condbr $2, 2($1), 3($1) 2($4 i32): call void put($4) !2 $3 = add i32 $4, i32 1 br 1($3) 3($5 i32): ret $5")
        self.assertEqual(certificate, (("add_param", "main", 2, 4, "i32", (("name", 1),)), ("add_param", "main", 3, 5, "i32", (("name", 1),)), ("use_params", "main", ((2, 0), (3, 0)))))
        # $0 is from outside the loop; it stays.
        self.leaves(close, "0(): $0 = call i32 get() !1 br 1(i32 0) 1($1 i32): $2 = add i32 $1, $0 $3 = icmp ult i32 $2, $0 condbr $3, 1($2), 2() 2(): ret i32 0")

    def test_names_that_pass_blocks(self):
        # The name is live in block 3, which does not use it.
        text = "0(): br 1(i32 0) 1($1 i32): $2 = call i32 get() !1 $3 = icmp eq i32 $2, i32 0 condbr $3, 2(), 3() 2(): $4 = add i32 $1, $2 br 1($4) 3(): br 4() 4(): ret $2"
        certificate, changed = self.passed(close, self.module(text))
        self.assertEqual(certificate, slow_close(self.module(text), "main", 1000))
        self.assertEqual([step[2] for step in certificate if step[0] == "add_param"], [2, 2, 3, 4])
        self.assertTrue(is_closed(changed[1][0], 1))

    def test_amount(self):
        text = LOOP.replace("ret $1", "br 4(i32 0) 4($5 i32): $6 = icmp ult i32 $5, i32 3 condbr $6, 5(), 6() 5(): $7 = add i32 $5, i32 1 br 4($7) 6(): ret $5") + " 9(): ret i32 0"
        module = self.module(text)
        for amount in (0, 1, 2, 1000):
            certificate, changed = self.passed(close, module, amount=amount)
            self.assertEqual(certificate, slow_close(module, "main", amount))
            self.assertEqual([is_closed(changed[1][0], label) for label in (1, 4)], [amount > 0, amount > 1])

    def test_names_at_the_bound(self):
        self.leaves(close, LOOP.replace("$3", "$999999999"))
        certificate, changed = self.passed(close, self.module(LOOP.replace("$3", "$999999998")))
        self.assertEqual(certificate, ())

    def test_random(self):
        found = 0
        for seed in range(200):
            module = branchy(seed) if seed % 2 else random_module(seed)
            module = check(module, plain(module, ""))[0]
            for function in module[1]:
                name = function[0]
                certificate, changed = self.passed(close, module, name)
                self.assertEqual(certificate, slow_close(module, name, 1000))
                after = find_function(changed, name)
                for loop in simple_loops(after):
                    self.assertTrue(all(is_closed(after, label) for label in loop[1]))
                self.assertEqual(close(changed, name), ())
                found += certificate != ()
        self.assertGreater(found, 40)
        self.joined(close, range(15))


class RotateTest(PassCase):

    def test_loop(self):
        closed = check(self.module(LOOP), close(self.module(LOOP), "main"))[0]
        certificate, changed = self.passed(rotate, self.module(LOOP))
        self.assertEqual(certificate[:3], close(self.module(LOOP), "main"))
        self.assertEqual(certificate[3:], (("copy", "main", 1, 4, (6, 7), ((0, 0),)),))
        self.assertEqual(faults(closed), [])
        self.assertEqual([loop[:3] for loop in loops(graph_of(changed[1][0]))], [(2, (1, 2), (1,))])

    def test_left_alone(self):
        # The header is the latch; no edge leads out of the header, two lead into the loop.
        for text in ("0(): br 1() 1(): $1 = call i32 get() !2 $2 = icmp eq i32 $1, i32 1 condbr $2, 1(), 3() 3(): ret i32 0",
                     "0(): br 1() 1(): br 2() 2(): $1 = call i32 get() !2 $2 = icmp eq i32 $1, i32 1 condbr $2, 1(), 3() 3(): ret i32 0",
                     "0(): br 1() 1(): $1 = call i32 get() !2 switch $1, 0: 2(), 1: 3(), else 4() 2(): br 5() 3(): br 5() 5(): br 1() 4(): ret i32 0"):
            self.leaves(rotate, text)

    def test_amount_and_unreachable_blocks(self):
        text = "0(): br 1() 1(): $1 = call i32 get() !2 $2 = icmp eq i32 $1, i32 1 condbr $2, 2(), 3() 2(): br 1() 3(): br 4() 4(): $3 = call i32 get() !3 $4 = icmp eq i32 $3, i32 1 condbr $4, 5(), 6() 5(): br 4() 6(): ret i32 0 9(): ret i32 1"
        module = self.module(text)
        for amount, count in ((0, 1), (1, 2), (2, 3), (1000, 3)):
            certificate, changed = self.passed(rotate, module, amount=amount)
            self.assertEqual(len(certificate), count)
            self.assertEqual([loop[0] for loop in loops(graph_of(changed[1][0]))], [[1, 4], [2, 4], [2, 5], [2, 5]][min(amount, 3)])

    def test_random(self):
        found = 0
        for seed in range(200):
            module = branchy(seed) if seed % 2 else random_module(seed)
            module = check(module, plain(module, ""))[0]
            for function in module[1]:
                name = function[0]
                certificate, changed = self.passed(rotate, module, name)
                copies = [step for step in certificate if step[0] == "copy"]
                self.assertEqual(certificate[:len(certificate) - len(copies)], close(module, name))
                graph = graph_of(find_function(changed, name))
                headers = {loop[0] for loop in loops(graph)}
                latches = {latch for loop in loops(graph) for latch in loop[2]}
                for step in copies:
                    self.assertNotIn(step[2], headers)
                    self.assertIn(step[2], latches)
                found += len(copies)
        self.assertGreater(found, 20)
        self.joined(rotate, range(15))


class LoopBoundsTest(unittest.TestCase):

    def test_many_loops(self):
        blocks = [(0, (), (), ("br", (1, (("int", "i32", 0),))))]
        for k in range(100):
            here = 3 * k + 1
            blocks.append((here, ((3 * k, "i32"),), ((3 * k + 1, "icmp", "i32", (("name", 3 * k), ("int", "i32", 2)), ("ult",), -1),), ("condbr", ("name", 3 * k + 1), (here + 1, ()), (here + 2, ()))))
            blocks.append((here + 1, (), ((3 * k + 2, "add", "i32", (("name", 3 * k), ("int", "i32", 1)), (), -1),), ("br", (here, (("name", 3 * k + 2),)))))
            blocks.append((here + 2, (), (), ("br", (here + 3, (("int", "i32", 0),)))))
        blocks.append((301, ((300, "i32"),), (), ("ret", ("name", 300))))
        module = ((), (("main", "i32", False, tuple(blocks)),))
        self.assertEqual(shallow(lambda: plain(module, "main")), ())
        for action in (close, rotate):
            certificate = shallow(lambda: action(module, "main"))
            changed, at = shallow(lambda: check(module, certificate))
            self.assertEqual(at, -1)
            self.assertEqual(run(changed, [], fuel=10 ** 5)[:2], run(module, [], fuel=10 ** 5)[:2])
        self.assertEqual(len(shallow(lambda: simple_loops(module[1][0]))), 100)

    def test_nested_loops(self):
        depth = 100
        blocks = [(0, (), ((0, "call", "i32", (), ("get",), 1), (1, "icmp", "i32", (("name", 0), ("int", "i32", 3)), ("ult",), -1)), ("br", (1, ())))]
        blocks += [(k, (), (), ("br", (k + 1, ()))) for k in range(1, depth + 1)]
        blocks += [(depth + k, (), (), ("condbr", ("name", 1), (depth + 1 - k, ()), (depth + k + 1, ()))) for k in range(1, depth + 1)]
        blocks.append((2 * depth + 1, (), (), ("ret", ("int", "i32", 0))))
        module = ((), (("main", "i32", False, tuple(blocks)),))
        certificate = shallow(lambda: plain(module, "main"))
        changed, at = shallow(lambda: check(module, certificate))
        self.assertEqual(at, -1)
        self.assertTrue(is_plain(changed[1][0]))


if __name__ == "__main__":
    unittest.main()
