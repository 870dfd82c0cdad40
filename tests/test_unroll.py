"""Promises 9.24 and 9.25: peel and unroll."""

import unittest

from burnish.check import apply_step, check
from burnish.edits import block_names, incoming
from burnish.graph import graph_of, reverse_postorder
from burnish.loops import preheader
from burnish.plainloops import close, plain, simple_loops
from burnish.records import edges, find_block, find_function, new_label, new_name
from burnish.run import run, visits
from burnish.unroll import peel, unroll
from passing import PassCase, random_module
from stepping import INPUTS
from test_bounds import shallow
from test_plainloops import LOOP, branchy

# A loop of one block, and a loop of three with two exits.
ONE = "0(): $0 = call i32 get() !1 br 1(i32 0) 1($1 i32): call void put($1) !2 $2 = add i32 $1, i32 1 $3 = icmp ult i32 $2, $0 condbr $3, 1($2), 2() 2(): ret i32 0"
EXITS = ("0(): $0 = call i32 get() !1 br 1(i32 0) 1($1 i32): $2 = icmp ult i32 $1, $0 condbr $2, 2(), 4() 2(): call void put($1) !2 $3 = call i32 get() !3 $4 = icmp eq i32 $3, i32 7 condbr $4, 5(), 3() "
         "3(): $5 = add i32 $1, i32 1 br 1($5) 4(): ret i32 4 5(): ret i32 5")
NESTED = ("0(): br 1(i32 0) 1($1 i32): $2 = icmp ult i32 $1, i32 4 condbr $2, 2(), 6() 2(): br 3(i32 0) 3($3 i32): $4 = icmp ult i32 $3, $1 condbr $4, 4(), 5() 4(): call void put($3) !1 $5 = add i32 $3, i32 1 br 3($5) "
          "5(): $6 = add i32 $1, i32 1 br 1($6) 6(): ret i32 0")
DATA = [[n, 1, 2, 3, 7][:k] for n in range(0, 12) for k in (1, 4, 5)] + [[], [255]]


def stays(module, data, name, ahead, header):
    """Return how often each stay in a loop visits the header, None if the run has no end or the function calls itself."""
    if run(module, data, fuel=3000)[1] == ("none",):
        return None
    found = []
    for owner, label in visits(module, data, fuel=3000):
        if (owner, label) == (name, ahead):
            found.append(0)
        if (owner, label) == (name, header) and found:
            found[-1] += 1
    return found


def calls_itself(module, name):
    callees = {function[0]: {row[4][0] for block in function[3] for row in block[2] if row[1] == "call"} for function in module[1]}
    seen, waiting = set(), list(callees[name])
    while waiting:
        at = waiting.pop()
        if at in callees and at not in seen:
            seen.add(at)
            waiting.extend(callees[at])
    return name in seen


def slow_copies(module, name, loop, order, places, rounds):
    """Return the steps of one round of copies, and the changed module; `rounds` gets the dict of the copies."""
    found, made = [], {}
    for label in order:
        function = find_function(module, name)
        if label != loop[0]:
            places = [place for place in incoming(function, label) if place[0] in made.values()]
        if not places:
            continue
        first = new_name(function)
        count = len(block_names(find_block(function, label)))
        made[label] = new_label(function)
        found.append(("copy", name, label, made[label], tuple(range(first, first + count)), tuple(places)))
        module = apply_step(module, found[-1])
    rounds.append(made)
    return found, module


def slow_passes(module, name, amount, is_peel):
    """Return the steps of peel or unroll, by the words of the document."""
    found = list(close(module, name))
    module = check(module, tuple(found))[0]
    for header in [loop[0] for loop in simple_loops(find_function(module, name))]:
        function = find_function(module, name)
        loop = ([row for row in simple_loops(function) if row[0] == header] + [None])[0]
        if loop is None:
            continue
        order = [header] + [label for label in reverse_postorder(graph_of(function)) if label in loop[1] and label != header]
        rounds = [{label: label for label in loop[1]}]
        for turn in range(amount if is_peel else amount - 1):
            function = find_function(module, name)
            if is_peel and turn == 0:
                places = [place for place in incoming(function, header) if place[0] not in loop[1]]
            elif is_peel:
                places = [place for place in incoming(function, header) if place[0] in rounds[-1].values()]
            else:
                places = [place for place in incoming(function, header) if place[0] == rounds[-1][loop[2][0]]]
            if not places:
                break
            steps, module = slow_copies(module, name, loop, order, places, rounds)
            found.extend(steps)
            if is_peel:
                continue
            latch = rounds[-1][loop[2][0]]
            headers = [made[header] for made in rounds]
            told = [(slot, edge[0]) for slot, edge in enumerate(edges(find_block(find_function(module, name), latch)[3])) if edge[0] in headers]
            (slot, target), = told
            if target != header:
                pairs = [(rounds[i + 1][label], rounds[i][label]) for label in loop[1] for i in range(turn + 1)]
                if turn > 0:
                    pairs += [(rounds[1][label], rounds[-1][label]) for label in loop[1]]
                found.append(("twins", name, tuple(sorted(pairs)), latch, slot, header))
                module = apply_step(module, found[-1])
    return tuple(found)


class PeelTest(PassCase):

    def test_loop(self):
        module = self.module(LOOP)
        closed = close(module, "main")
        self.assertEqual(self.passed(peel, module, amount=0)[0], closed)
        certificate, changed = self.passed(peel, module)
        self.assertEqual(certificate, closed + (("copy", "main", 1, 4, (6, 7), ((0, 0),)), ("copy", "main", 2, 5, (8, 9), ((4, 0),))))
        self.assertEqual(peel(module, "main", amount=1), certificate)
        certificate = self.passed(peel, module, amount=2)[0]
        self.assertEqual(certificate[-2:], (("copy", "main", 1, 6, (10, 11), ((5, 0),)), ("copy", "main", 2, 7, (12, 13), ((6, 0),))))

    def test_visits(self):
        for text, ahead, header in ((LOOP, 0, 1), (ONE, 0, 1), (EXITS, 0, 1), (NESTED, 2, 3)):
            module = self.module(text)
            for amount in range(9):
                certificate, changed = self.passed(peel, module, amount=amount)
                self.assertEqual(certificate, slow_passes(module, "main", amount, True))
                for data in DATA:
                    first = stays(module, data, "main", ahead, header)
                    if first is not None:
                        self.assertEqual(stays(changed, data, "main", ahead, header), [max(0, n - amount) for n in first])

    def test_beyond_the_limit(self):
        module = self.module(LOOP)
        self.assertEqual(self.passed(peel, module, amount=9)[1], self.passed(peel, module, amount=8)[1])

    def test_left_alone(self):
        self.leaves(peel, LOOP.replace("br 1(i32 0)", "condbr i1 1, 1(i32 0), 1(i32 1)").replace("3(): ret $1", "3(): ret i32 0"))
        self.assertEqual(peel(self.module("0(): ret i32 0 1(): ret i32 0"), "main"), (("prune", "main"),))
        # No label is left for a copy.
        module = self.module(LOOP.replace("3()", "999999999()"))
        self.assertEqual(self.passed(peel, module)[0], close(module, "main"))

    def test_random(self):
        found = 0
        for seed in range(120):
            module = branchy(seed) if seed % 2 else random_module(seed)
            module = check(module, plain(module, ""))[0]
            for function in module[1]:
                name = function[0]
                amount = seed % 4
                certificate, changed = self.passed(peel, module, name, amount=amount)
                self.assertEqual(certificate, slow_passes(module, name, amount, True))
                self.look_at_visits(module, changed, name, lambda n: max(0, n - amount))
                found += "copy" in self.words(certificate)
        self.assertGreater(found, 20)
        self.joined(peel, range(15))

    def look_at_visits(self, module, changed, name, due):
        if calls_itself(module, name):
            return
        function = find_function(module, name)
        for loop in simple_loops(function):
            ahead = preheader(graph_of(function), loop)
            for data in INPUTS:
                first = stays(module, data, name, ahead, loop[0])
                if first is not None and run(changed, data, fuel=3000)[1] != ("none",):
                    self.assertEqual(stays(changed, data, name, ahead, loop[0]), [due(n) for n in first])


class UnrollTest(PassCase):

    look_at_visits = PeelTest.look_at_visits

    def test_loop(self):
        module = self.module(LOOP)
        closed = close(module, "main")
        self.assertEqual(self.passed(unroll, module, amount=1)[0], closed)
        certificate, changed = self.passed(unroll, module)
        self.assertEqual(certificate, closed + (("copy", "main", 1, 4, (6, 7), ((2, 0),)), ("copy", "main", 2, 5, (8, 9), ((4, 0),)), ("twins", "main", ((4, 1), (5, 2)), 5, 0, 1)))
        self.assertEqual(unroll(module, "main", amount=2), certificate)
        certificate = self.passed(unroll, module, amount=3)[0]
        self.assertEqual(certificate[-1], ("twins", "main", ((4, 1), (4, 6), (5, 2), (5, 7), (6, 4), (7, 5)), 7, 0, 1))

    def test_loop_of_one_block(self):
        certificate = self.passed(unroll, self.module(ONE))[0]
        self.assertEqual(certificate, (("copy", "main", 1, 3, (4, 5, 6), ((1, 0),)),))
        certificate = self.passed(unroll, self.module(ONE), amount=3)[0]
        self.assertEqual(self.words(certificate), ["copy", "copy", "twins"])
        self.assertEqual(certificate[2], ("twins", "main", ((3, 1), (3, 4), (4, 3)), 4, 0, 1))

    def test_visits(self):
        for text, ahead, header in ((LOOP, 0, 1), (ONE, 0, 1), (EXITS, 0, 1), (NESTED, 2, 3)):
            module = self.module(text)
            for amount in range(1, 9):
                certificate, changed = self.passed(unroll, module, amount=amount)
                self.assertEqual(certificate, slow_passes(module, "main", amount, False))
                for data in DATA:
                    first = stays(module, data, "main", ahead, header)
                    if first is not None:
                        self.assertEqual(stays(changed, data, "main", ahead, header), [(n + amount - 1) // amount for n in first])

    def test_beyond_the_limit(self):
        module = self.module(LOOP)
        self.assertEqual(self.passed(unroll, module, amount=0)[1], self.passed(unroll, module, amount=1)[1])
        self.assertEqual(self.passed(unroll, module, amount=9)[1], self.passed(unroll, module, amount=8)[1])

    def test_random(self):
        found = 0
        for seed in range(120):
            module = branchy(seed) if seed % 2 else random_module(seed)
            module = check(module, plain(module, ""))[0]
            for function in module[1]:
                name = function[0]
                amount = 1 + seed % 4
                certificate, changed = self.passed(unroll, module, name, amount=amount)
                self.assertEqual(certificate, slow_passes(module, name, amount, False))
                self.look_at_visits(module, changed, name, lambda n: (n + amount - 1) // amount)
                found += "copy" in self.words(certificate)
        self.assertGreater(found, 20)
        self.joined(unroll, range(15))


class UnrollBoundsTest(unittest.TestCase):

    def test_long_loop(self):
        rows = tuple((k + 2, "add", "i32", (("name", k + 1 if k else 0), ("int", "i32", k)), (), -1) for k in range(2000))
        blocks = ((0, (), (), ("br", (1, (("int", "i32", 0),)))), (1, ((0, "i32"),), rows + ((1, "icmp", "i32", (("name", 2001), ("int", "i32", 1)), ("ult",), -1),), ("condbr", ("name", 1), (2, ()), (3, ()))),
                  (2, (), (), ("br", (1, (("name", 5),)))), (3, (), (), ("ret", ("name", 5))))
        module = ((), (("main", "i32", False, blocks),))
        for action in (peel, unroll):
            certificate = shallow(lambda: action(module, "main", amount=8))
            changed, at = shallow(lambda: check(module, certificate))
            self.assertEqual(at, -1)
            self.assertEqual(run(changed, [], fuel=9000)[:2], run(module, [], fuel=9000)[:2])


if __name__ == "__main__":
    unittest.main()
