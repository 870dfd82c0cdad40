"""Promises 5.1 to 5.11: graphs, dominators and loops."""

import copy
import random
import unittest

from burnish.dominators import (
    deciders, dominates, dominator_order, frontiers, immediate_dominators, immediate_postdominators, is_available,
    iterated_frontier,
)
from burnish.graph import (
    backwards, critical_edges, definition_places, graph_of, live_names, reachable, reverse_postorder,
)
from burnish.loops import innermost, is_reducible, loop_exits, loops, preheader
from burnish.parse import parse_module
from burnish.records import definitions, end_operands
from samples import TEXT, Maker

FIRST = ((0, (1,)), (1, (2, 3)), (2, (1,)), (3, (4, 4)), (4, ()))
SECOND = ((7, (1, 2)), (1, (2,)), (2, (1,)))


def random_graph(rnd, most=9):
    labels = rnd.sample(range(30), rnd.randint(1, most))
    return tuple((label, tuple(rnd.choice(labels) for _ in range(rnd.choice((0, 1, 1, 2, 2, 3))))) for label in labels)


def reach(targets, start, barred=None):
    """Return the labels to which paths lead that do not contain the barred one."""
    if start == barred:
        return set()
    found, waiting = {start}, [start]
    while waiting:
        for target in targets[waiting.pop()]:
            if target != barred and target not in found:
                found.add(target)
                waiting.append(target)
    return found


class Brute:
    """The notions of part 5 by their definitions, for small graphs."""

    def __init__(self, graph):
        self.targets = dict(graph)
        self.labels = [label for label, _ in graph]
        self.entry = self.labels[0]
        self.live = reach(self.targets, self.entry)
        self.below = {a: {b for b in self.live if a in self.live and b not in reach(self.targets, self.entry, a)} for a in self.labels}
        self.behind = {a: {b for b in self.labels if self.ends(b) and not self.ends(b, a)} for a in self.labels}
        self.back = {(t, h) for t in self.live for h in self.targets[t] if t in self.below[h]}
        self.bodies = {}
        for h in sorted({h for _, h in self.back}):
            latches = [t for t, other in self.back if other == h]
            self.bodies[h] = {h} | {x for x in self.live if any(t in reach(self.targets, x, h) for t in latches)}

    def ends(self, label, barred=None):
        return any(not self.targets[x] for x in reach(self.targets, label, barred))

    def nearest(self, below, labels):
        found = {}
        for b in labels:
            others = [a for a in self.labels if a != b and b in below[a]]
            for a in others:
                if all(a in below[c] for c in others):
                    found[b] = a
        return found

    def frontier(self, a, below, sources):
        return sorted(y for y in self.labels if any(sources(y, x) for x in below[a]) and (y == a or y not in below[a]))

    def frontiers(self):
        return {a: self.frontier(a, self.below, lambda y, x: y in self.targets[x]) for a in self.live}

    def deciders(self):
        return {a: self.frontier(a, self.behind, lambda y, x: x in self.targets[y]) for a in self.labels}

    def holders(self, label):
        return sorted((h for h in self.bodies if label in self.bodies[h]), key=lambda h: len(self.bodies[h]))

    def loops(self):
        found = []
        for h, body in self.bodies.items():
            others = [k for k in self.holders(h) if k != h]
            latches = tuple(sorted({t for t, other in self.back if other == h}))
            found.append((h, tuple(sorted(body)), latches, others[0] if others else -1, len(others) + 1))
        return found

    def preheader(self, loop):
        found = [p for p in self.live if p not in loop[1] and loop[0] in self.targets[p]]
        return found[0] if len(found) == 1 and len(self.targets[found[0]]) == 1 else -1

    def is_reducible(self):
        rest = {a: [b for b in self.targets[a] if (a, b) not in self.back] for a in self.live}
        return not any(a in reach(rest, b) for a in self.live for b in rest[a])

    def postorder(self):
        seen, listed = set(), []

        def enter(label):
            seen.add(label)
            for target in self.targets[label]:
                if target not in seen:
                    enter(target)
            listed.append(label)

        enter(self.entry)
        return listed


def brute_available(function, name, label, i):
    """Tell whether a name is defined on each path to a place, in another block or ahead in this one."""
    targets = dict(graph_of(function))
    for block, params, body, _ in function[3]:
        made = [(-1, own) for own, _ in params] + [(k, row[0]) for k, row in enumerate(body)]
        for k, own in made:
            if own == name and block == label:
                return k < i
            if own == name:
                return block in reach(targets, function[3][0][0]) and label not in reach(targets, function[3][0][0], block)
    return False


def brute_live(function):
    """Return the live names of a function by repeating the rule until nothing changes."""
    targets = dict(graph_of(function))
    used, made = {}, {}
    for label, params, body, end in function[3]:
        operands = [operand for row in body for operand in row[3]] + end_operands(end)
        made[label] = {name for name, _ in params} | {row[0] for row in body}
        used[label] = {operand[1] for operand in operands if operand[0] == "name"}
    live = {label: set() for label in targets}
    changed = True
    while changed:
        changed = False
        for label in targets:
            now = (used[label] | {name for target in targets[label] for name in live[target]}) - made[label]
            changed = changed or now != live[label]
            live[label] = now
    return {label: sorted(names) for label, names in live.items()}


class ExampleTest(unittest.TestCase):

    def test_first(self):
        self.assertEqual(backwards(FIRST), {0: [], 1: [0, 2], 2: [1], 3: [1], 4: [3, 3]})
        self.assertEqual(reverse_postorder(FIRST), [0, 1, 3, 4, 2])
        self.assertEqual(immediate_dominators(FIRST), {1: 0, 2: 1, 3: 1, 4: 3})
        self.assertEqual(immediate_postdominators(FIRST), {0: 1, 1: 3, 2: 1, 3: 4})
        self.assertEqual(frontiers(FIRST), {0: [], 1: [1], 2: [1], 3: [], 4: []})
        self.assertEqual(critical_edges(FIRST), [(3, 0), (3, 1)])
        self.assertEqual(loops(FIRST), [(1, (1, 2), (2,), -1, 1)])
        self.assertEqual(loop_exits(FIRST, loops(FIRST)[0]), [(1, 1, 3)])
        self.assertEqual(preheader(FIRST, loops(FIRST)[0]), 0)
        self.assertEqual(deciders(FIRST), {0: [], 1: [1], 2: [1], 3: [], 4: []})

    def test_second(self):
        tree = immediate_dominators(SECOND)
        self.assertEqual(tree, {1: 7, 2: 7})
        self.assertFalse(dominates(tree, 1, 2) or dominates(tree, 2, 1))
        self.assertEqual(loops(SECOND), [])
        self.assertIs(is_reducible(SECOND), False)
        self.assertEqual(immediate_postdominators(SECOND), {})
        self.assertEqual(iterated_frontier(SECOND, [1]), [1, 2])


class GraphTest(unittest.TestCase):

    def test_graph_of(self):
        function = parse_module(TEXT)[1][1]
        self.assertEqual(graph_of(function), ((0, (1, 2)), (1, ()), (2, (3, 1, 3)), (3, ())))

    def test_critical_edges(self):
        graph = ((5, (9, 2)), (9, (2,)), (2, (2, 9, 2)), (4, (2, 5)), (1, ()))
        self.assertEqual(critical_edges(graph), [(2, 0), (2, 1), (2, 2), (4, 0), (5, 0), (5, 1)])
        self.assertEqual(critical_edges(((3, (4, 4)), (4, ()))), [(3, 0), (3, 1)])
        self.assertEqual(critical_edges(((3, (4,)), (5, (4,)), (4, ()))), [])

    def test_one_label(self):
        for graph, found in ((((4, ()),), []), (((4, (4,)),), [(4, (4,), (4,), -1, 1)])):
            self.assertEqual(reachable(graph), [4])
            self.assertEqual(immediate_dominators(graph), {})
            self.assertEqual(immediate_postdominators(graph), {})
            self.assertEqual(loops(graph), found)
            self.assertEqual(frontiers(graph), {4: [4] if found else []})
            self.assertEqual(innermost(graph), {4: 4 if found else -1})

    def test_nested_loops_and_latches(self):
        graph = ((0, (10,)), (10, (20, 99)), (20, (20, 30)), (30, (10, 40)), (40, (10, 20)), (99, ()), (50, (10, 50)))
        self.assertEqual(loops(graph), [(10, (10, 20, 30, 40), (30, 40), -1, 1), (20, (20, 30, 40), (20, 40), 10, 2)])
        self.assertEqual(innermost(graph), {0: -1, 10: 10, 20: 20, 30: 20, 40: 20, 99: -1, 50: -1})
        self.assertEqual(loop_exits(graph, loops(graph)[1]), [(30, 0, 10), (40, 0, 10)])
        self.assertEqual([preheader(graph, loop) for loop in loops(graph)], [0, -1])

    def test_preheader(self):
        def only(graph):
            return preheader(graph, loops(graph)[0])
        self.assertEqual(only(((0, (1, 1)), (1, (1,)))), -1)
        self.assertEqual(only(((0, (1, 2)), (1, (1, 2)), (2, ()))), -1)
        self.assertEqual(only(((0, (1,)), (3, (1,)), (1, (1,)))), 0)
        self.assertEqual(only(((0, (3, 4)), (3, (1,)), (4, (1,)), (1, (1,)))), -1)
        self.assertEqual(only(((1, (2,)), (2, (1,)))), -1)

    def test_dicts_and_lists_are_new(self):
        graph = FIRST
        loop = loops(graph)[0]
        calls = (lambda: backwards(graph), lambda: reachable(graph), lambda: reverse_postorder(graph), lambda: frontiers(graph),
                 lambda: deciders(graph), lambda: loops(graph), lambda: innermost(graph), lambda: immediate_dominators(graph),
                 lambda: loop_exits(graph, loop), lambda: iterated_frontier(graph, [2]), lambda: critical_edges(graph))
        for call in calls:
            first, told = call(), copy.deepcopy(call())
            first.clear()
            self.assertEqual(call(), told)
        for call in calls[0], calls[3], calls[4]:
            first, told = call(), copy.deepcopy(call())
            for row in first.values():
                row.append(77)
            self.assertEqual(call(), told)


class BruteTest(unittest.TestCase):

    def test_random_graphs(self):
        rnd = random.Random(5)
        for _ in range(1200):
            graph = random_graph(rnd)
            brute = Brute(graph)
            self.assertEqual(reachable(graph), sorted(brute.live))
            self.assertEqual(reverse_postorder(graph), brute.postorder()[::-1])
            self.assertEqual(immediate_postdominators(graph), brute.nearest(brute.behind, brute.labels))
            self.assertEqual(frontiers(graph), brute.frontiers())
            self.assertEqual(deciders(graph), brute.deciders())
            self.assertEqual(loops(graph), brute.loops())
            self.assertEqual(innermost(graph), {label: (brute.holders(label) + [-1])[0] for label in brute.labels})
            self.assertIs(is_reducible(graph), brute.is_reducible())
            self.look_at_tree(graph, brute)
            self.look_at_edges(graph, brute)
            self.look_at_joins(graph, brute, [label for label in brute.labels if rnd.random() < 0.3])

    def look_at_tree(self, graph, brute):
        tree = immediate_dominators(graph)
        self.assertEqual(tree, brute.nearest(brute.below, brute.live))
        for a in brute.live:
            for b in brute.live:
                self.assertIs(dominates(tree, a, b), b in brute.below[a])

        def below(label):
            found = [label]
            for other in sorted(other for other in tree if tree[other] == label):
                found += below(other)
            return found

        self.assertEqual(dominator_order(graph, tree), below(graph[0][0]))

    def look_at_edges(self, graph, brute):
        pairs = [(label, target) for label, targets in graph for target in targets]
        self.assertEqual(backwards(graph), {label: sorted(a for a, b in pairs if b == label) for label in brute.labels})
        expected = sorted((label, k) for label, targets in graph for k, target in enumerate(targets)
                          if len(targets) > 1 and [b for _, b in pairs].count(target) > 1)
        self.assertEqual(critical_edges(graph), expected)
        for loop in loops(graph):
            self.assertEqual(preheader(graph, loop), brute.preheader(loop))
            expected = sorted((label, k, target) for label, targets in graph for k, target in enumerate(targets)
                              if label in loop[1] and target not in loop[1])
            self.assertEqual(loop_exits(graph, loop), expected)

    def look_at_joins(self, graph, brute, labels):
        rows, found, before = brute.frontiers(), set(), None
        while found != before:
            before = set(found)
            for label in list(labels) + list(before):
                found.update(rows.get(label, []))
        self.assertEqual(iterated_frontier(graph, labels), sorted(found))


class NamesTest(unittest.TestCase):

    def test_definition_places(self):
        function = parse_module(TEXT)[1][1]
        self.assertEqual(definition_places(function), {0: (0, 0), 1: (0, 1), 2: (0, 3), 3: (0, 4), 4: (0, 5), 5: (2, -1), 6: (2, -1)})

    def test_live_across_loops(self):
        function = parse_module("""export main i32 { 0(): $9 = call i32 get() !1 $8 = alloca 4 $7 = add i32 $9, i32 1 br 1($7)
            1($1 i32): $2 = icmp eq i32 $1, $9 condbr $2, 2(), 5()
            2(): $3 = add i32 $1, i32 1 br 3($3) 3($4 i32): $5 = icmp ult i32 $4, i32 5 condbr $5, 2(), 1($4)
            5(): kill $8 ret $1 6(): $10 = add i32 $11, $9 $11 = add i32 $10, $1 br 6() }""")[1][0]
        self.assertEqual(live_names(function), {0: [], 1: [8, 9], 2: [1, 8, 9], 3: [1, 8, 9], 5: [1, 8], 6: [1, 9]})

    def test_very_many_names(self):
        rows = tuple((k, "add", "i8", (("int", "i8", 1), ("int", "i8", 2)), (), -1) for k in range(3000))
        uses = tuple((3000 + k, "add", "i8", (("name", k), ("name", 2999 - k)), (), -1) for k in range(0, 3000, 3))
        blocks = ((0, (), rows, ("br", (1, ()))), (1, (), (), ("br", (2, ()))), (2, (), uses, ("ret", ("name", 2001))))
        expected = sorted(set(range(0, 3000, 3)) | set(range(2999, -1, -3)) | {2001})
        self.assertEqual(live_names(("f", "i8", True, blocks)), {0: [], 1: expected, 2: expected})

    def test_random_functions(self):
        for seed in range(150):
            rnd = random.Random(seed)
            for function in Maker(rnd, blocks=9).module()[1]:
                before = copy.deepcopy(function)
                self.assertEqual(live_names(function), brute_live(function))
                places = definition_places(function)
                self.assertEqual(sorted(places), sorted(name for name, _ in definitions(function)))
                self.look_at_availability(function, rnd)
                self.assertEqual(function, before)

    def look_at_availability(self, function, rnd):
        tree = immediate_dominators(graph_of(function))
        live = set(reachable(graph_of(function)))
        names = [name for name, _ in definitions(function)] + [10 ** 6]
        for label, _, body, _ in function[3]:
            for i in range(len(body) + 1) if label in live else ():
                for name in rnd.sample(names, min(5, len(names))):
                    self.assertIs(is_available(function, tree, name, label, i), brute_available(function, name, label, i))


if __name__ == "__main__":
    unittest.main()
