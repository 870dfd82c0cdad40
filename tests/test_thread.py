"""Promise 10.7: decided and thread."""

import unittest

from burnish.check import apply_step
from burnish.edits import block_names, edge_at, is_closed, is_pure
from burnish.records import edges, find_block, find_function, map_instruction, new_label, new_name
from burnish.run import run
from burnish.solve import solve_values
from burnish.thread import decided, thread
from burnish.words import binary, cast, compare, width
from passing import PassCase, random_module
from test_bounds import shallow
from test_plainloops import branchy

GET = "0(): $0 = call i32 get() !1 $1 = icmp eq i32 $0, i32 0 "


def slow_decided(function, label, slot):
    """Return what an edge decides, by the words of the document."""
    target, operands = edge_at(function, label, slot)
    _, params, body, end = find_block(function, target)
    if end[0] not in ("condbr", "switch"):
        return None
    known = {("name", param): operand for (param, _), operand in zip(params, operands)}
    for row in body:
        name, op, kind, told, data, _ = map_instruction(row, lambda operand: known.get(operand, operand))
        if not is_pure(row) or any(operand[0] != "int" for operand in told):
            continue
        w, values = width(told[0][1]), [operand[2] for operand in told]
        if op == "icmp":
            known[("name", name)] = ("int", "i1", compare(data[0], w, values[0], values[1]))
        elif op == "select":
            known[("name", name)] = told[1] if values[0] else told[2]
        elif op in ("trunc", "zext", "sext"):
            known[("name", name)] = ("int", kind, cast(op, w, width(kind), values[0]))
        else:
            known[("name", name)] = ("int", kind, binary(op, w, values[0], values[1]))
    condition = known.get(end[1], end[1])
    return condition[2] if condition[0] == "int" else None


def slow_thread(module, name, amount):
    """Return the steps of thread, by the words of the document."""
    found, copies = [], []
    for _ in range(amount):
        function = find_function(module, name)
        places = sorted((block[0], slot) for block in function[3] for slot in range(len(edges(block[3]))))
        for label, slot in places:
            target, operands = edge_at(function, label, slot)
            block = find_block(function, target)
            if target in (label, function[3][0][0]) or target in copies or not is_closed(function, target) or len(block[2]) > 8:
                continue
            if block[3][0] not in ("condbr", "switch") or len(set(edges(block[3]))) < 2 or slow_decided(function, label, slot) is None:
                continue
            fresh, first = new_label(function), new_name(function)
            steps = [("copy", name, target, fresh, tuple(range(first, first + len(block_names(block)))), ((label, slot),))]
            steps += [("same_param", name, fresh, i, operands[i]) for i in range(len(operands) - 1, -1, -1) if operands[i][0] == "int"]
            changed = module
            for step in steps:
                changed = apply_step(changed, step) if changed is not None else None
            if changed is None:
                continue
            condition = find_block(find_function(changed, name), fresh)[3][1]
            if condition[0] == "name":
                steps.append(("ranges", name, solve_values(changed, find_function(changed, name)), (condition[1],)))
                changed = apply_step(changed, steps[-1])
            steps.append(("fold_end", name, fresh))
            changed = apply_step(changed, steps[-1]) if changed is not None else None
            if changed is not None:
                found += steps
                copies.append(fresh)
                module = changed
                break
        else:
            break
    return tuple(found)


class DecidedTest(PassCase):

    def decisions(self, text):
        function = self.module(text)[1][0]
        return [decided(function, 0, slot) for slot in range(len(edges(function[3][0][3])))]

    def test_conditions(self):
        text = GET + "condbr $1, 1(i32 3), 1($0) 1($2 i32): {} 2(): ret i32 2 3(): ret i32 3"
        self.assertEqual(self.decisions(text.format("switch $2, 3: 2(), else 3()")), [3, None])
        self.assertEqual(self.decisions(text.format("$3 = icmp ult i32 $2, i32 4 condbr $3, 2(), 3()")), [1, None])
        self.assertEqual(self.decisions(text.format("$3 = icmp ult i32 $0, i32 4 condbr $3, 2(), 3()")), [None, None])
        self.assertEqual(self.decisions(text.format("condbr i1 0, 2(), 3()")), [0, 0])
        self.assertEqual(self.decisions(text.format("$4 = trunc i8 $2 $5 = sext i16 $4 $6 = sub i16 $5, i16 4 $7 = select i16 i1 1, $6, i16 9 switch $7, 65535: 2(), else 3()")), [65535, None])
        self.assertEqual(self.decisions(text.format("br 3()")), [None, None])
        self.assertEqual(self.decisions(text.format("ret $2")), [None, None])
        # A division is not pure, nor is what memory gives; a pointer is no integer.
        self.assertEqual(self.decisions(text.format("$4 = udiv i32 $2, i32 1 !2 switch $4, 3: 2(), else 3()")), [None, None])
        self.assertEqual(self.decisions(text.format("$4 = icmp eq ptr null, null condbr $4, 2(), 3()")), [None, None])
        self.assertEqual(self.decisions(text.format("$4 = gep null, 0 $5 = mul i32 $2, i32 0 switch $5, 3: 2(), else 3()")), [0, None])

    def test_random(self):
        found = 0
        for seed in range(300):
            for function in (branchy(seed) if seed % 2 else random_module(seed))[1]:
                for block in function[3]:
                    for slot in range(len(edges(block[3]))):
                        self.assertEqual(decided(function, block[0], slot), slow_decided(function, block[0], slot))
                        found += decided(function, block[0], slot) is not None
        self.assertGreater(found, 100)


class ThreadTest(PassCase):

    def test_edge(self):
        text = GET + "condbr $1, 1(i32 3, $0), 1($0, $0) 1($2 i32, $5 i32): $3 = icmp ult i32 $2, i32 4 call void put($5) !2 condbr $3, 2($5), 3() 2($4 i32): ret $4 3(): ret i32 3"
        certificate = self.leads(thread, text, GET + "condbr $1, 4($0), 1($0, $0) 1($2 i32, $5 i32): $3 = icmp ult i32 $2, i32 4 call void put($5) !2 condbr $3, 2($5), 3() 2($4 i32): ret $4 3(): ret i32 3 4($7 i32): $8 = icmp ult i32 i32 3, i32 4 call void put($7) !2 br 2($7)")
        self.assertEqual(self.words(certificate), ["copy", "same_param", "ranges", "fold_end"])
        self.assertEqual(certificate[0], ("copy", "main", 1, 4, (6, 7, 8), ((0, 0),)))
        self.assertEqual(certificate[1], ("same_param", "main", 4, 0, ("int", "i32", 3)))
        self.assertEqual(certificate[2][3], (8,))
        self.assertEqual(certificate, slow_thread(self.module(text), "main", 16))

    def test_condition_that_is_passed(self):
        text = GET + "condbr $1, 1(i1 1, i8 2), 1($1, i8 3) 1($2 i1, $3 i8): condbr $2, 2(), 3() 2(): ret i32 2 3(): ret i32 3"
        certificate = self.passed(thread, self.module(text))[0]
        self.assertEqual(certificate, (("copy", "main", 1, 4, (4, 5), ((0, 0),)), ("same_param", "main", 4, 1, ("int", "i8", 2)), ("same_param", "main", 4, 0, ("int", "i1", 1)), ("fold_end", "main", 4)))

    def test_left_alone(self):
        base = GET + "condbr $1, 1(i32 3), 1($0) 1($2 i32): {} 2(): ret i32 2 3(): {}ret i32 3"
        rows = "".join(f"${k} = add i32 $2, i32 1 " for k in range(10, 17))
        eight = rows + "$9 = icmp ult i32 $2, i32 4 condbr $9, 2(), 3()"
        self.assertEqual(len(self.passed(thread, self.module(base.format(eight, "")))[0]), 4)
        self.leaves(thread, base.format("$8 = add i32 $2, i32 1 " + eight, ""))
        # Not closed; equal edges; a block that leads to itself.
        self.leaves(thread, base.format("switch $2, 3: 2(), else 3()", "call void put($2) !2 "))
        self.leaves(thread, base.format("switch $2, 3: 2(), else 2()", ""))
        self.leaves(thread, "0(): br 1($9) 1($0 i32): $1 = call i32 get() !1 switch $0, 3: 1(i32 3), else 2() 2(): ret i32 0".replace("0(): br 1($9)", "0(): $9 = call i32 get() !2 br 1($9)"))

    def test_edge_that_is_never_taken(self):
        # The edge is dead, so nothing is known of the copy, and "ranges" would be refused.
        text = GET + "$5 = and i32 $0, i32 1 $6 = icmp ult i32 $5, i32 2 condbr $6, 4(), 5() 4(): ret i32 4 5(): br 1(i32 3) 1($2 i32): $3 = icmp ult i32 $2, i32 4 condbr $3, 2(), 3() 2(): ret i32 2 3(): ret i32 3"
        self.leaves(thread, text)
        self.assertEqual(slow_thread(self.module(text), "main", 16), ())

    def test_copies_are_left_out(self):
        # The copy of block 1 leads to block 2, which it decides; the edge to the copy is not taken again.
        text = "0(): br 1(i32 0) 1($0 i32): $1 = icmp ult i32 $0, i32 9 condbr $1, 2($0), 3() 2($2 i32): call void put($2) !1 $3 = add i32 $2, i32 1 br 1($3) 3(): ret i32 0"
        certificate = self.passed(thread, self.module(text))[0]
        self.assertEqual(self.words(certificate), ["copy", "same_param", "ranges", "fold_end"])

    def test_amount(self):
        text = GET + "switch $0, 1: 1(i32 1), 2: 1(i32 2), 3: 1(i32 3), else 1($0) 1($2 i32): switch $2, 1: 2(), else 3() 2(): ret i32 2 3(): ret i32 3"
        module = self.module(text)
        for amount, count in ((0, 0), (1, 1), (2, 2), (3, 3), (16, 3)):
            self.assertEqual(self.words(self.passed(thread, module, amount=amount)[0]).count("copy"), count)
        self.assertEqual(thread(module, "main"), thread(module, "main", amount=16))
        self.assertEqual([step[5] for step in thread(module, "main") if step[0] == "copy"], [((0, 0),), ((0, 1),), ((0, 2),)])

    def test_default_amount(self):
        cases = ", ".join(f"{k}: 1(i32 {k})" for k in range(1, 20))
        module = self.module(GET + f"switch $0, {cases}, else 1($0) 1($2 i32): switch $2, 1: 2(), else 3() 2(): ret i32 2 3(): ret i32 3")
        self.assertEqual(self.words(self.passed(thread, module)[0]).count("copy"), 16)
        self.assertEqual(self.words(self.passed(thread, module, amount=30)[0]).count("copy"), 19)

    def test_labels_at_the_bound(self):
        self.leaves(thread, GET + "condbr $1, 1(i32 3), 1($0) 1($2 i32): switch $2, 3: 2(), else 999999999() 2(): ret i32 2 999999999(): ret i32 3")

    def test_random(self):
        found = 0
        for seed in range(150):
            module = branchy(seed) if seed % 2 else random_module(seed)
            for function in module[1]:
                for amount in (1, 16):
                    certificate = self.passed(thread, module, function[0], amount=amount)[0]
                    self.assertEqual(certificate, slow_thread(module, function[0], amount))
                    found += certificate != ()
        self.assertGreater(found, 20)

    def test_many(self):
        blocks = [(0, (), ((0, "call", "i32", (), ("get",), 1),), ("br", (1, ())))]
        for k in range(200):
            here = 3 * k + 1
            blocks.append((here, (), (), ("switch", ("name", 0), ((k, (here + 1, (("int", "i1", 1),))),), (here + 1, (("int", "i1", 0),)))))
            blocks.append((here + 1, ((k + 1, "i1"),), ((-1, "call", "void", (("name", 0),), ("put",), 1),), ("condbr", ("name", k + 1), (here + 2, ()), (here + 3, ()))))
            blocks.append((here + 2, (), (), ("br", (here + 3, ()))))
        blocks.append((601, (), (), ("ret", ("name", 0))))
        module = ((), (("main", "i32", False, tuple(blocks)),))
        certificate = shallow(lambda: thread(module, "main", amount=60))
        self.assertEqual(self.words(certificate).count("copy"), 60)
        changed = self.passed(thread, module, amount=10)[1]
        self.assertEqual(run(changed, [5], fuel=9000)[:2], run(module, [5], fuel=9000)[:2])


if __name__ == "__main__":
    unittest.main()
