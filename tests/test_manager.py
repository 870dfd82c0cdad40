"""Promises 10.8 to 10.11: scripts, passes by their words, run_script, optimize and sessions."""

import copy
import importlib
import inspect
import random
import unittest

from burnish.check import check
from burnish.errors import BurnishError, ScriptError, UnknownFunction, UnknownPass
from burnish.faults import faults
from burnish.manager import PASSES, Session, join, optimize, read_script, run_pass, run_script, show_script, whole_module
from burnish.parse import parse_module
from burnish.records import find_function
from burnish.run import run
from passing import random_module
from stepping import INPUTS, StepCase
from test_bounds import shallow

FILES = {"combine": "combine", "constants": "constants", "numbering": "numbering", "deadcode": "deadcode", "sinking": "sinking", "drop_kills": "promote", "promote": "promote", "split": "objects", "globals_pass": "objects",
         "forward_loads": "stores", "dead_stores": "stores", "plain": "plainloops", "close": "plainloops", "rotate": "plainloops", "hoist": "invariants", "unswitch": "invariants", "peel": "unroll", "unroll": "unroll",
         "strength": "strength", "inline": "inline", "tails": "inline", "arguments": "arguments", "merge": "arguments", "drop": "arguments", "tidy": "tidy", "thread": "thread"}

TEXT = ("internal add1 i32 { 0($0 i32): $1 = add i32 $0, i32 1 $2 = mul i32 $1, i32 1 ret $2 } internal unused i32 { 0(): ret i32 1 } "
        "export main i32 { 0(): $0 = call i32 get() !1 $1 = add i32 $0, i32 0 $2 = call i32 add1($1) !2 br 1() 1(): call void put($2) !3 ret $2 2(): ret i32 0 }")


def items_within(count, script=(("pass", "tidy", -1),)):
    for k in range(count):
        script = (("until", k + 1, script),) if k % 2 else (("on", "f", script),)
    return script


class ScriptTest(unittest.TestCase):

    def bad(self, text, at):
        with self.assertRaises(ScriptError) as caught:
            read_script(text)
        self.assertEqual(caught.exception.at, at, text)
        self.assertIsInstance(caught.exception, BurnishError)

    def both(self, script, text):
        self.assertEqual(show_script(script), text)
        self.assertEqual(read_script(text), script)

    def test_texts(self):
        self.both((), "")
        self.both((("pass", "combine", -1),), "combine")
        self.both((("pass", "combine", 0), ("pass", "peel", 10000)), "combine 0; peel 10000")
        self.both((("until", 100, (("pass", "tidy", 1), ("pass", "dead_stores", -1))), ("pass", "drop", -1)), "until 100 {tidy 1; dead_stores}; drop")
        self.both((("on", "f_1", (("until", 1, (("on", "until", (("pass", "split", -1),)),)),)),), "on f_1 {until 1 {on until {split}}}")
        self.both((("on", "z9", (("pass", "tidy", -1),)),), "on z9 {tidy}")
        self.both((("on", "zzz", (("pass", "tidy", -1),)),), "on zzz {tidy}")
        self.both((("on", "a" * 20, (("pass", "tidy", -1),)),), "on " + "a" * 20 + " {tidy}")

    def test_blanks(self):
        script = (("until", 3, (("pass", "tidy", 5), ("pass", "drop", -1))),)
        for text in ("until 3{tidy 5;drop}", "\n until\n3 {\n  tidy   5 ;\n drop }\n ", "until 3 { tidy 5; drop }"):
            self.assertEqual(read_script(text), script)
        for text in (" ", "\n\n", "  \n"):
            self.assertEqual(read_script(text), ())

    def test_depth(self):
        for count in (1, 7, 8):
            self.assertEqual(read_script(show_script(items_within(count))), items_within(count))
        for count in (9, 10):
            text = show_script(items_within(count))
            # The ninth one cannot stand.
            places = [k for k in range(len(text)) if text.startswith(("until ", "on "), k)]
            self.bad(text, places[8])
        # Beside one another there may be more.
        text = "; ".join([show_script(items_within(8))] * 3)
        self.assertEqual(len(read_script(text)), 3)

    def test_bounds(self):
        for text, at in (("tidy 10001", 5), ("tidy 00", 5), ("tidy 01", 5), ("tidy -1", 5), ("until 0 {tidy}", 6), ("until 101 {tidy}", 6), ("until 01 {tidy}", 6), ("tidy " + "9" * 5000, 5), ("until 1" + "0" * 5000 + " {tidy}", 6),
                         ("on " + "a" * 21 + " {tidy}", 3), ("on 1a {tidy}", 3), ("on _a {tidy}", 3), ("on A {tidy}", 3), ("on 5 {tidy}", 3)):
            self.bad(text, at)
        for text in ("tidy 10000", "tidy 0", "until 1 {tidy}", "until 100 {tidy}"):
            read_script(text)

    def test_wrong_texts(self):
        for text, at in ((";", 0), ("tidy;", 5), ("tidy; ", 6), ("tidy;;drop", 5), ("; tidy", 0), ("tidy drop", 5), ("tidy 5 5", 7), ("tidy 5x", 5), ("nothing", 0), ("tidy; Drop", 6), ("combin", 0), ("combined", 0),
                         ("until", 5), ("until ", 6), ("until 3", 7), ("until 3 tidy", 8), ("until 3 {", 9), ("until 3 {}", 9), ("until 3 {tidy", 13), ("until 3 {tidy;}", 14), ("until x {tidy}", 6), ("until {tidy}", 6),
                         ("until 3 {tidy}}", 14), ("until 3 {tidy} drop", 15), ("on {tidy}", 3), ("on f", 4), ("on f tidy", 5), ("on", 2), ("on f {tidy};", 12), ("{tidy}", 0), ("}", 0), ("5", 0), ("tidy {drop}", 5), ("tidy }", 5),
                         ("tidy\t", 4), ("tidy!", 4), ("tidy -1", 5), ("tidy \u00b2", 5), ("on \u00e9 {tidy}", 3), ("until \u0663 {tidy}", 6), ("tidy_", 0), ("until3 {tidy}", 0), ("on f{until 2 {}}", 14)):
            self.bad(text, at)

    def test_random(self):
        def items(rnd, depth):
            found = []
            for _ in range(rnd.randrange(1, 4)):
                sort = rnd.randrange(4) if depth < 8 else 3
                if sort == 0:
                    found.append(("until", rnd.randrange(1, 101), items(rnd, depth + 1)))
                elif sort == 1:
                    found.append(("on", rnd.choice(("f", "main", "until", "on", "combine", "a_1")), items(rnd, depth + 1)))
                else:
                    found.append(("pass", rnd.choice(PASSES), rnd.choice((-1, 0, 1, 7, 10000))))
            return tuple(found)
        for seed in range(200):
            rnd = random.Random(seed)
            script = items(rnd, rnd.randrange(6, 9))
            text = show_script(script)
            self.assertEqual(shallow(lambda: read_script(text)), script)
            # A cut text ends too soon, or is the text of another script.
            cut = text[:rnd.randrange(len(text))]
            try:
                read_script(cut)
            except ScriptError as error:
                self.assertLessEqual(error.at, len(cut))


class PassesTest(unittest.TestCase):

    def test_words(self):
        self.assertEqual(PASSES, tuple(sorted(FILES)))
        self.assertEqual([word for word in PASSES if whole_module(word)], ["arguments", "drop", "globals_pass", "merge"])
        for word in PASSES:
            self.assertIsInstance(whole_module(word), bool)

    def test_defaults_and_amounts(self):
        for seed in range(12):
            module = random_module(seed)
            for word in PASSES:
                action = getattr(importlib.import_module("burnish." + FILES[word]), word)
                default = inspect.signature(action).parameters["amount"].default
                for name in [""] if whole_module(word) else [function[0] for function in module[1]]:
                    self.assertEqual(run_pass(module, word, name, -1), action(module, name))
                    self.assertEqual(run_pass(module, word, name, default), action(module, name))
                    for amount in (0, 1, 2):
                        self.assertEqual(run_pass(module, word, name, amount), action(module, name, amount=amount))

    def test_unknown(self):
        module = parse_module(TEXT)
        for word in ("", "tidies", "Tidy", "until", "on", "prune", "run_pass"):
            for name in ("main", "", "none"):
                with self.assertRaises(UnknownPass) as caught:
                    run_pass(module, word, name, -1)
                self.assertEqual(caught.exception.word, word)
                self.assertIsInstance(caught.exception, BurnishError)
        for word in PASSES:
            for name in ("none", "put", "main " if whole_module(word) else "", "main" if whole_module(word) else "Main"):
                with self.assertRaises(UnknownFunction) as caught:
                    run_pass(module, word, name, -1)
                self.assertEqual(caught.exception.name, name)
                self.assertIsInstance(caught.exception, BurnishError)


class RunScriptTest(StepCase):

    def look(self, module, script):
        before = copy.deepcopy((module, script))
        changed, entries = run_script(module, script)
        self.assertEqual((module, script), before)
        self.assertIsInstance(entries, list)
        self.assertEqual(check(module, join(entries)), (changed, -1))
        self.assertEqual(faults(changed), [])
        at = module
        for word, name, certificate in entries:
            at = check(at, certificate)[0]
        self.assertEqual(at, changed)
        self.same_runs(module, changed)
        return changed, [(word, name, len(certificate)) for word, name, certificate in entries]

    def test_passes(self):
        module = parse_module(TEXT)
        self.assertEqual(run_script(module, ()), (module, []))
        changed, told = self.look(module, (("pass", "combine", -1),))
        self.assertEqual(told, [("combine", "add1", 1), ("combine", "unused", 0), ("combine", "main", 1)])
        changed, told = self.look(module, (("pass", "tidy", 1), ("pass", "drop", -1), ("pass", "tidy", -1)))
        self.assertEqual(told, [("tidy", "add1", 0), ("tidy", "unused", 0), ("tidy", "main", 1), ("drop", "", 1), ("tidy", "add1", 0), ("tidy", "main", 1)])

    def test_on(self):
        module = parse_module(TEXT)
        changed, told = self.look(module, (("on", "main", (("pass", "tidy", -1), ("pass", "drop", -1), ("pass", "combine", -1))), ("on", "none", (("pass", "tidy", -1),))))
        self.assertEqual(told, [("tidy", "main", 2), ("drop", "", 1), ("combine", "main", 1)])
        # The function no longer exists when its turn comes; an inner "on" goes ahead of an outer one.
        changed, told = self.look(module, (("on", "unused", (("pass", "tidy", -1), ("pass", "drop", -1), ("pass", "tidy", -1), ("on", "add1", (("pass", "tidy", -1),)), ("pass", "combine", -1))),))
        self.assertEqual(told, [("tidy", "unused", 0), ("drop", "", 1), ("tidy", "add1", 0)])

    def test_until(self):
        module = parse_module(TEXT)
        changed, told = self.look(module, (("until", 5, (("pass", "tidy", 1),)),))
        self.assertEqual(told, [("tidy", name, count) for counts in ((0, 0, 1), (0, 0, 1), (0, 0, 0)) for name, count in zip(("add1", "unused", "main"), counts)])
        changed, told = self.look(module, (("until", 1, (("pass", "tidy", 1),)),))
        self.assertEqual(len(told), 3)
        # It goes on as long as one of the certificates is not empty, wherever that stands.
        changed, told = self.look(module, (("until", 9, (("on", "main", (("pass", "tidy", 1), ("pass", "numbering", -1))),)),))
        self.assertEqual(told, [("tidy", "main", 1), ("numbering", "main", 0)] * 2 + [("tidy", "main", 0), ("numbering", "main", 0)])
        changed, told = self.look(module, (("until", 9, (("until", 1, (("on", "main", (("pass", "tidy", 1),)),)),)),))
        self.assertEqual(told, [("tidy", "main", 1), ("tidy", "main", 1), ("tidy", "main", 0)])
        changed, told = self.look(module, (("until", 100, (("until", 2, (("on", "main", (("pass", "tidy", 1),)),)), ("pass", "drop", -1))),))
        self.assertEqual(told, [("tidy", "main", 1), ("tidy", "main", 1), ("drop", "", 1), ("tidy", "main", 0), ("drop", "", 0)])

    def test_random(self):
        for seed in range(60):
            rnd = random.Random(seed)
            module = random_module(seed, statements=4, depth=2)
            words = [rnd.choice(PASSES) for _ in range(4)]
            script = (("pass", words[0], -1), ("until", 3, (("pass", words[1], -1), ("on", "main", (("pass", words[2], 1),)))), ("pass", words[3], 2))
            self.assertEqual(read_script(show_script(script)), script)
            self.look(module, script)


class OptimizeTest(StepCase):

    def test_list(self):
        module = parse_module(TEXT)
        passes = [("tidy", "main", 1), ("inline", "main", -1), ("drop", "", -1), ("combine", "main", 0), ("tidy", "main", -1)]
        changed, entries = optimize(module, passes)
        self.assertEqual([entry[:2] for entry in entries], [(word, name) for word, name, _ in passes])
        self.assertEqual(check(module, join(entries)), (changed, -1))
        self.assertEqual(len(changed[1]), 1)
        self.same_runs(module, changed)
        self.assertEqual(optimize(module, []), (module, []))
        self.assertEqual(join([]), ())

    def test_unknown(self):
        module = parse_module(TEXT)
        with self.assertRaises(UnknownPass):
            optimize(module, [("tidy", "main", -1), ("none", "main", -1)])
        with self.assertRaises(UnknownFunction):
            optimize(module, [("drop", "", -1), ("tidy", "unused", -1)])


class SessionTest(unittest.TestCase):

    def state(self, session):
        return (session.module, session.certificate, session.count())

    def test_runs_and_undo(self):
        module = parse_module(TEXT)
        session = Session(module)
        self.assertEqual(self.state(session), (module, (), 0))
        self.assertIs(session.undo(), False)
        self.assertEqual(self.state(session), (module, (), 0))
        states = [self.state(session)]
        for word, name, amount in (("tidy", "main", 1), ("drop", "", -1), ("tidy", "main", -1), ("tidy", "main", -1), ("combine", "add1", -1)):
            certificate = run_pass(session.module, word, name, amount)
            self.assertEqual(session.run(word, name, amount=amount), len(certificate))
            self.assertEqual(session.module, check(states[-1][0], certificate)[0])
            self.assertEqual(session.certificate, states[-1][1] + certificate)
            self.assertEqual(session.count(), len(states))
            states.append(self.state(session))
        self.assertEqual(check(module, session.certificate), (session.module, -1))
        while len(states) > 1:
            self.assertEqual(self.state(session), states.pop())
            self.assertIs(session.undo(), True)
        self.assertEqual(self.state(session), states[0])
        self.assertIs(session.undo(), False)
        self.assertEqual(self.state(session), states[0])
        self.assertEqual(session.run("combine", "main"), 1)
        self.assertEqual(session.count(), 1)

    def test_defaults(self):
        module = parse_module(TEXT)
        for word in PASSES:
            session = Session(module)
            name = "" if whole_module(word) else "main"
            self.assertEqual(session.run(word, name), len(run_pass(module, word, name, -1)))
            self.assertEqual(session.certificate, run_pass(module, word, name, -1))

    def test_errors_change_nothing(self):
        session = Session(parse_module(TEXT))
        session.run("drop", "")
        before = self.state(session)
        for word, name, error in (("none", "main", UnknownPass), ("tidy", "unused", UnknownFunction), ("tidy", "", UnknownFunction), ("drop", "main", UnknownFunction)):
            with self.assertRaises(error):
                session.run(word, name)
            self.assertEqual(self.state(session), before)
        self.assertIs(session.undo(), True)
        self.assertIsNotNone(find_function(session.module, "unused"))

    def test_two_sessions(self):
        module = parse_module(TEXT)
        one, other = Session(module), Session(module)
        one.run("drop", "")
        self.assertEqual((one.count(), other.count()), (1, 0))
        self.assertEqual(other.module, module)
        self.assertEqual(run(one.module, INPUTS[2], fuel=100), run(module, INPUTS[2], fuel=100))


if __name__ == "__main__":
    unittest.main()
