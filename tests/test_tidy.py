"""Promises 10.5 and 10.6: chains and tidy."""

import random
import unittest

from burnish.check import apply_step, check
from burnish.edits import edge_at, incoming, uses
from burnish.records import edges, find_block, find_function, new_name
from burnish.run import run
from burnish.scopes import reached
from burnish.tidy import chain, tidy
from passing import PassCase, random_module
from test_bounds import shallow
from test_plainloops import branchy

GET = "0(): $0 = call i32 get() !1 $1 = icmp eq i32 $0, i32 0 "


def slow_passable(function, label):
    """Tell whether a block is passable, by the words of the document."""
    block = find_block(function, label)
    if label == function[3][0][0] or block[2] or block[3][0] != "br":
        return False
    return all(place[0] == label for param, _ in block[1] for place in uses(function, param))


def slow_chain(function, label, slot):
    found = []
    at = edge_at(function, label, slot)[0]
    while slow_passable(function, at):
        if at in found:
            return found, False
        found.append(at)
        at = find_block(function, at)[3][1][0]
    return found, True


def slow_steps(module, name):
    """Return the steps that may apply, part by part and by positions, by the words of the document."""
    function = find_function(module, name)
    labels = sorted(block[0] for block in function[3])
    entry = function[3][0][0]
    found = []
    if len(reached(function)) < len(labels):
        found.append(("prune", name))
    found += [("fold_end", name, label) for label in labels]
    for label in labels:
        end = find_block(function, label)[3]
        found += [("drop_case", name, label, i) for i in range(len(end[2]) if end[0] == "switch" else 0)]
    found += [("join", name, label) for label in labels]
    for label in labels:
        for i, (param, _) in enumerate(find_block(function, label)[1]):
            passed = {edge_at(function, at, slot)[1][i] for at, slot in incoming(function, label)} - {("name", param)}
            if len(passed) == 1:
                found.append(("same_param", name, label, i, list(passed)[0]))
    for label in labels:
        for i, (param, _) in enumerate(find_block(function, label)[1] if label != entry else ()):
            own = 0
            for at, slot in incoming(function, label):
                own += edge_at(function, at, slot)[1][i] == ("name", param)
            if len(uses(function, param)) == own:
                found.append(("drop_names", name, (param,)))
    for label in labels:
        end = find_block(function, label)[3]
        if end[0] == "switch" and len(end[2]) == 1:
            found.append(("as_condbr", name, label, new_name(function)))
    for label in labels:
        for slot in range(len(edges(find_block(function, label)[3]))):
            row, ends = slow_chain(function, label, slot)
            if row and ends:
                found.append(("skip", name, label, slot))
    return found


def slow_tidy(module, name):
    found = []
    while True:
        step = [step for step in slow_steps(module, name) if apply_step(module, step) is not None][:1]
        if not step:
            return tuple(found)
        found += step
        module = apply_step(module, step[0])


def shape(module, name):
    """Return the tuple that decreases with each step."""
    function = find_function(module, name)
    entry = function[3][0]
    lengths = 0
    for block in function[3]:
        for slot in range(len(edges(block[3]))):
            row, ends = slow_chain(function, block[0], slot)
            lengths += len(row) if ends else 0
    # A switch without cases becomes br, though nothing of what the document counts gets less then.
    return (len(function[3]), sum(len(block[1]) for block in function[3]) - len(entry[1]), sum(len(edges(block[3])) for block in function[3]),
            sum(block[3][0] == "switch" and len(block[3][2]) == 1 for block in function[3]), sum(block[3][0] == "switch" and not block[3][2] for block in function[3]), lengths)


class ChainTest(PassCase):

    def test_chains(self):
        text = GET + "condbr $1, 1($0), 5($0) 1($2 i32): br 2($2) 2($3 i32): br 3($3, i32 1) 3($4 i32, $5 i32): call void put($4) !2 br 4() 4(): ret i32 0 5($6 i32): br 6($6) 6($7 i32): br 5($7)"
        function = self.module(text)[1][0]
        self.assertEqual(chain(function, 0, 0), ([1, 2], True))
        self.assertEqual(chain(function, 0, 1), ([5, 6], False))
        self.assertEqual(chain(function, 1, 0), ([2], True))
        self.assertEqual(chain(function, 2, 0), ([], True))
        self.assertEqual(chain(function, 5, 0), ([6, 5], False))
        # A parameter that is used elsewhere.
        function = self.module(text.replace("ret i32 0", "ret $3"))[1][0]
        self.assertEqual(chain(function, 0, 0), ([1], True))
        # A block that leads to itself.
        function = self.module(GET + "condbr $1, 1(), 2() 1(): br 1() 2(): ret i32 0")[1][0]
        self.assertEqual(chain(function, 0, 0), ([1], False))
        self.assertEqual(chain(function, 0, 1), ([], True))

    def test_random(self):
        for seed in range(200):
            for function in (branchy(seed) if seed % 2 else random_module(seed))[1]:
                for block in function[3]:
                    for slot in range(len(edges(block[3]))):
                        self.assertEqual(chain(function, block[0], slot), slow_chain(function, block[0], slot))


class TidyTest(PassCase):

    def each(self, text, due, *steps):
        certificate = self.leads(tidy, text, due)
        self.assertEqual(certificate, steps)
        self.assertEqual(certificate, slow_tidy(self.module(text), "main"))
        self.cut(tidy, text)

    def test_prune(self):
        self.each("0(): ret i32 0 1(): br 2() 2(): ret i32 1", "0(): ret i32 0", ("prune", "main"))

    def test_fold_end(self):
        text = GET + "condbr $1, 7(), 5() 5(): condbr i1 1, 7(), 5() 7(): ret i32 0"
        self.each(text, GET + "br 7() 7(): ret i32 0".replace("br 7() 7(): ", ""), ("fold_end", "main", 5), ("skip", "main", 0, 1), ("prune", "main"), ("fold_end", "main", 0), ("join", "main", 0))

    def test_fold_end_at_the_least_label(self):
        text = GET + "condbr $1, 7(), 3() 7(): condbr i1 1, 8(), 9() 3(): condbr i1 1, 8(), 9() 8(): call void put($0) !2 ret i32 0 9(): call void put($0) !3 ret i32 1"
        self.assertEqual(tidy(self.module(text), "main")[:2], (("fold_end", "main", 3), ("fold_end", "main", 7)))

    def test_drop_case(self):
        text = GET + "switch $0, 1: 2(), 3: 1(), 5: 2(), 6: 1(), else 2() 1(): ret i32 1 2(): ret i32 2"
        certificate = tidy(self.module(text), "main")
        self.assertEqual(certificate, (("drop_case", "main", 0, 0), ("drop_case", "main", 0, 1)))
        self.leads(tidy, text, GET + "switch $0, 3: 1(), 6: 1(), else 2() 1(): ret i32 1 2(): ret i32 2")

    def test_join(self):
        self.each(GET + "br 4($1) 4($2 i1): $3 = zext i32 $2 br 2() 2(): ret $3", GET + "$3 = zext i32 $1 ret $3", ("join", "main", 0), ("join", "main", 0))

    def test_same_param(self):
        text = GET + "condbr $1, 1(), 2() 1(): call void put($0) !2 br 3($0, i32 1, i32 1) 2(): call void put($0) !3 br 3($0, i32 1, i32 2) 3($2 i32, $3 i32, $4 i32): $5 = add i32 $2, $3 $6 = icmp eq i32 $5, $4 condbr $6, 3($2, $3, $4), 4() 4(): ret $5"
        certificate = self.passed(tidy, self.module(text))[0]
        self.assertEqual(certificate, (("same_param", "main", 3, 0, ("name", 0)), ("same_param", "main", 3, 0, ("int", "i32", 1))))
        # The operand is defined in the block itself, so that the parameter is another value.
        text = "0(): br 1(i32 0) 1($0 i32): $1 = call i32 get() !1 call void put($0) !2 condbr i1 1, 1($1), 1($1)"
        self.assertEqual(self.words(tidy(self.module(text), "main")), ["fold_end"])

    def test_drop_names(self):
        text = "0(): br 1(i32 0, i32 7) 1($0 i32, $1 i32): $2 = call i32 get() !1 $3 = icmp eq i32 $2, i32 0 condbr $3, 1($2, $1), 2($2) 2($4 i32): ret i32 0"
        certificate = self.leads(tidy, text, "0(): br 1() 1(): $2 = call i32 get() !1 $3 = icmp eq i32 $2, i32 0 condbr $3, 1(), 2() 2(): ret i32 0")
        self.assertEqual(certificate, (("same_param", "main", 1, 1, ("int", "i32", 7)), ("same_param", "main", 2, 0, ("name", 2)), ("drop_names", "main", (0,))))
        # A parameter of the function stays.
        text = "internal f void { 0($0 i32): call void put(i32 1) !1 ret }"
        self.leaves(tidy, text, "f")

    def test_as_condbr(self):
        text = GET + "switch $0, 300: 1(), else 2() 1(): ret i32 1 2(): ret i32 2"
        self.each(text, GET + "$2 = icmp eq i32 $0, i32 300 condbr $2, 1(), 2() 1(): ret i32 1 2(): ret i32 2", ("as_condbr", "main", 0, 2))
        self.leaves(tidy, text.replace("$1", "$999999999"))
        # A switch without cases has equal edges.
        self.assertEqual(self.words(tidy(self.module(GET + "switch $0, else 1() 1(): ret i32 1"), "main")), ["fold_end", "join"])

    def test_skip(self):
        text = GET + "condbr $1, 1($0), 2($0) 1($2 i32): br 3($2, i32 1) 2($3 i32): br 3(i32 2, $3) 3($4 i32, $5 i32): $6 = add i32 $4, $5 ret $6"
        self.each(text, GET + "condbr $1, 3($0, i32 1), 3(i32 2, $0) 3($4 i32, $5 i32): $6 = add i32 $4, $5 ret $6", ("same_param", "main", 1, 0, ("name", 0)), ("same_param", "main", 2, 0, ("name", 0)),
                  ("skip", "main", 0, 0), ("prune", "main"), ("skip", "main", 0, 1), ("prune", "main"))
        # A chain that goes round stays.
        self.leaves(tidy, GET + "condbr $1, 1(), 2() 1(): br 4() 4(): call void put($0) !2 br 1() 2(): ret i32 0".replace("1(): br 4() 4():", "1():"))
        self.leaves(tidy, GET + "condbr $1, 1(), 2() 1(): br 1() 2(): ret i32 0")

    def test_the_tuple_decreases(self):
        for seed in range(120):
            module = branchy(seed) if seed % 2 else random_module(seed)
            for function in module[1]:
                name = function[0]
                certificate = self.passed(tidy, module, name)[0]
                self.assertEqual(certificate, slow_tidy(module, name))
                before, changed = shape(module, name), module
                for step in certificate:
                    changed = apply_step(changed, step)
                    self.assertLess(shape(changed, name), before)
                    before = shape(changed, name)
                self.assertEqual(tidy(changed, name), ())

    def test_random_switches(self):
        words = set()
        for seed in range(150):
            module = switchy(seed)
            certificate, changed = self.passed(tidy, module)
            self.assertEqual(certificate, slow_tidy(module, "main"))
            words.update(self.words(certificate))
        self.assertEqual(len(words), 8)

    def test_long_chain(self):
        blocks = tuple((k, (), ((k, "add", "i32", (("name", k - 1) if k else ("int", "i32", 1), ("int", "i32", k)), (), -1),), ("br", (k + 1, ()))) for k in range(700)) + ((700, (), (), ("ret", ("name", 699))),)
        module = ((), (("main", "i32", False, blocks),))
        certificate = shallow(lambda: tidy(module, "main"))
        changed, at = shallow(lambda: check(module, certificate))
        self.assertEqual((at, len(certificate), len(changed[1][0][3])), (-1, 700, 1))
        self.assertEqual(run(changed, [], fuel=9000)[1], run(module, [], fuel=9000)[1])


def switchy(seed):
    """Return a module of blocks with few instructions and ends of all sorts, most of them constant or with equal edges."""
    rnd = random.Random(seed)
    count = rnd.randrange(3, 9)
    blocks = []
    params = {k: tuple((10 * k + i, "i32") for i in range(rnd.randrange(3) if k else 0)) for k in range(count)}

    def operand(k):
        own = [("name", name) for name, _ in params[k]]
        return rnd.choice(own + [("name", 1), ("int", "i32", rnd.randrange(2))]) if k else rnd.choice((("name", 1), ("int", "i32", 1)))

    def edge(k):
        target = rnd.randrange(1, count)
        return (target, tuple(operand(k) for _ in params[target]))

    for k in range(count):
        body = ((1, "call", "i32", (), ("get",), 1),) if k == 0 else ()
        body += tuple((-1, "call", "void", (operand(k),), ("put",), 2) for _ in range(rnd.random() < 0.3))
        sort = rnd.randrange(6)
        if sort == 0 and k:
            end = ("ret", operand(k))
        elif sort < 3:
            end = ("br", edge(k))
        elif sort == 3:
            end = ("condbr", ("int", "i1", rnd.randrange(2)), edge(k), edge(k))
        else:
            values = sorted(rnd.sample(range(4), rnd.randrange(3)))
            end = ("switch", operand(k), tuple((value, edge(k)) for value in values), edge(k))
        blocks.append((k, params[k], body, end))
    return ((), (("main", "i32", False, tuple(blocks)),))


if __name__ == "__main__":
    unittest.main()
