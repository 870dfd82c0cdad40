"""Promises 2.9 to 2.11: scanning, showing and parsing."""

import random
import unittest

from burnish.errors import TextError
from burnish.parse import parse_module
from burnish.scan import scan
from burnish.show import show_end, show_function, show_instruction, show_module, show_operand
from grammar import ModuleGrammar, tokens_of
from samples import BINARIES, DIVISIONS, INTEGERS, KINDS, PREDICATES, TEXT, Maker, some_value

GRAMMAR = ModuleGrammar()
CALLEES = ("get", "put", "exit", "malloc", "free", "f", "main", "a_very_long_name_20x", "add", "ret", "i8", "null")
NAMES = ("g", "global", "x1", "a_", "i32", "abcdefghij0123456789", "else")


def wrong_at(text):
    """Return the `at` of the error of a text, or -1."""
    try:
        parse_module(text)
    except TextError as error:
        return error.at
    return -1


class Freely:
    """Makes modules that keep the rules of records, though not those of faults."""

    def __init__(self, rnd):
        self.rnd = rnd

    def number(self):
        return self.rnd.choice((0, 1, 5, 999999999, self.rnd.randrange(100)))

    def operand(self):
        rnd = self.rnd
        kind = rnd.choice(INTEGERS)
        return rnd.choice((("int", kind, some_value(rnd, kind)), ("null",), ("name", self.number()), ("global", rnd.choice(NAMES))))

    def operands(self, count):
        return tuple(self.operand() for _ in range(count))

    def scale(self):
        return self.rnd.choice((0, 1, -1, 2 ** 31 - 1, -2 ** 31, 40, -7))

    def instruction(self):
        rnd = self.rnd
        op = rnd.choice(BINARIES + DIVISIONS + ("icmp", "select", "trunc", "zext", "sext", "alloca", "gep", "load", "store", "kill", "call"))
        kind, operands, data = rnd.choice(INTEGERS), self.operands(2), ()
        if op == "icmp":
            kind, data = rnd.choice(KINDS), (rnd.choice(PREDICATES),)
        elif op == "select":
            kind, operands = rnd.choice(KINDS), self.operands(3)
        elif op in ("trunc", "zext", "sext"):
            operands = self.operands(1)
        elif op == "alloca":
            kind, operands, data = "ptr", (), (rnd.choice((1, 4096, 17)),)
        elif op == "gep":
            count = rnd.randrange(5)
            kind, operands, data = "ptr", self.operands(count + 1), tuple(self.scale() for _ in range(count + 1))
        elif op in ("load", "store"):
            kind, operands = rnd.choice(KINDS), self.operands(1 if op == "load" else 2)
        elif op == "kill":
            kind, operands = "void", self.operands(1)
        elif op == "call":
            kind, operands, data = rnd.choice(KINDS + ("void",)), self.operands(rnd.randrange(4)), (rnd.choice(CALLEES),)
        return (rnd.choice((-1, self.number())), op, kind, operands, data, rnd.choice((-1, self.number())))

    def edge(self):
        return (self.number(), self.operands(self.rnd.randrange(3)))

    def end(self):
        cases = tuple((self.rnd.choice((0, 7, 2 ** 64 - 1)), self.edge()) for _ in range(self.rnd.randrange(3)))
        return self.rnd.choice((
            ("br", self.edge()), ("condbr", self.operand(), self.edge(), self.edge()),
            ("switch", self.operand(), cases, self.edge()), ("ret", None), ("ret", self.operand()), ("stop", self.number()),
        ))

    def block(self):
        params = tuple((self.number(), self.rnd.choice(KINDS)) for _ in range(self.rnd.randrange(3)))
        return (self.number(), params, tuple(self.instruction() for _ in range(self.rnd.randrange(4))), self.end())

    def module(self):
        rnd = self.rnd
        records = tuple((rnd.choice(NAMES), rnd.random() < 0.5, tuple(rnd.choice((0, 255, 9)) for _ in range(rnd.randrange(1, 4))))
                        for _ in range(rnd.randrange(3)))
        functions = tuple((rnd.choice(NAMES), rnd.choice(KINDS + ("void",)), rnd.random() < 0.5,
                           tuple(self.block() for _ in range(rnd.randrange(1, 4)))) for _ in range(rnd.randrange(3)))
        return (records, functions)


class ScanTest(unittest.TestCase):

    def test_tokens(self):
        self.assertEqual(scan(""), [])
        self.assertEqual(scan(" \n \n"), [])
        self.assertEqual(scan("$5=x_1 !7"), [("$", 0), ("5", 1), ("=", 2), ("x_1", 3), ("!", 7), ("7", 8)])
        self.assertEqual(scan("\n@g0,0a:(){}*-!"), [("@", 1), ("g0", 2), (",", 4), ("0a", 5), (":", 7), ("(", 8), (")", 9),
                                                    ("{", 10), ("}", 11), ("*", 12), ("-", 13), ("!", 14)])

    def test_a_strange_character_stands_alone(self):
        self.assertEqual(scan("aB9\tc.."), [("a", 0), ("B", 1), ("9", 2), ("\t", 3), ("c", 4), (".", 5), (".", 6)])
        self.assertEqual(scan("\u00e9\u0663\r"), [("\u00e9", 0), ("\u0663", 1), ("\r", 2)])


class ShowTest(unittest.TestCase):

    def test_operands(self):
        self.assertEqual(show_operand(("int", "i64", 2 ** 64 - 1)), "i64 18446744073709551615")
        self.assertEqual(show_operand(("null",)), "null")
        self.assertEqual(show_operand(("name", 0)), "$0")
        self.assertEqual(show_operand(("global", "g")), "@g")

    def test_instructions(self):
        x, one, p = ("name", 1), ("int", "i8", 1), ("name", 2)
        rows = (
            ((3, "icmp", "i8", (x, ("int", "i8", 7)), ("ult",), -1), "$3 = icmp ult i8 $1, i8 7"),
            ((3, "add", "i8", (x, one), (), -1), "$3 = add i8 $1, i8 1"),
            ((3, "udiv", "i8", (x, one), (), 0), "$3 = udiv i8 $1, i8 1 !0"),
            ((3, "select", "ptr", (x, p, ("null",)), (), -1), "$3 = select ptr $1, $2, null"),
            ((3, "zext", "i64", (x,), (), -1), "$3 = zext i64 $1"),
            ((3, "alloca", "ptr", (), (16,), -1), "$3 = alloca 16"),
            ((3, "gep", "ptr", (p,), (-5,), -1), "$3 = gep $2, -5"),
            ((3, "gep", "ptr", (p, x, one), (4, 0, -8), -1), "$3 = gep $2, 4, $1 * 0, i8 1 * -8"),
            ((3, "load", "i16", (p,), (), 9), "$3 = load i16 $2 !9"),
            ((-1, "store", "i8", (one, ("global", "g")), (), 999999999), "store i8 i8 1, @g !999999999"),
            ((-1, "kill", "void", (p,), (), -1), "kill $2"),
            ((3, "call", "i32", (), ("get",), 1), "$3 = call i32 get() !1"),
            ((-1, "call", "void", (x, p), ("f",), 1), "call void f($1, $2) !1"),
            ((-1, "add", "i8", (x, one), (), 4), "add i8 $1, i8 1 !4"),
            ((7, "store", "i8", (one, p), (), -1), "$7 = store i8 i8 1, $2"),
        )
        for instruction, text in rows:
            self.assertEqual(show_instruction(instruction), text)

    def test_ends(self):
        x, edge = ("name", 1), (4, (("name", 1), ("null",)))
        self.assertEqual(show_end(("br", edge)), "br 4($1, null)")
        self.assertEqual(show_end(("condbr", x, (2, ()), edge)), "condbr $1, 2(), 4($1, null)")
        self.assertEqual(show_end(("switch", x, ((0, edge), (9, (2, ()))), edge)), "switch $1, 0: 4($1, null), 9: 2(), else 4($1, null)")
        self.assertEqual(show_end(("switch", x, (), (3, ()))), "switch $1, else 3()")
        self.assertEqual(show_end(("ret", x)), "ret $1")
        self.assertEqual(show_end(("ret", None)), "ret")
        self.assertEqual(show_end(("stop", 0)), "stop !0")

    def test_functions_and_modules(self):
        self.assertEqual(show_module(parse_module(TEXT)), TEXT)
        self.assertEqual(show_module(((), ())), "")
        text = "internal f void {\n5($1 i8, $2 ptr):\n  ret\n}\n"
        function = ("f", "void", True, ((5, ((1, "i8"), (2, "ptr")), (), ("ret", None)),))
        self.assertEqual(show_function(function), text)
        self.assertEqual(show_module(((("k", True, (1, 255)), ("g", False, (0,))), (function,))),
                         "constant k 1 255\nglobal g 0\n" + text)


class ParseTest(unittest.TestCase):

    def test_module_to_text_to_module(self):
        for seed in range(400):
            module = Freely(random.Random(seed)).module()
            text = show_module(module)
            self.assertEqual(GRAMMAR.find_wrong(text), -1)
            self.assertEqual(parse_module(text), module)

    def test_constant_and_internal_are_booleans(self):
        module = parse_module(TEXT)
        self.assertEqual([record[1] for record in module[0]], [False, True])
        self.assertIs(module[1][0][2], True)
        self.assertIs(module[1][1][2], False)

    def test_other_blanks(self):
        rnd = random.Random(3)
        for seed in range(60):
            module = Freely(random.Random(seed)).module()
            text = ""
            for token, _ in scan(show_module(module)):
                close = text != "" and text[-1] in "abcdefghijklmnopqrstuvwxyz0123456789_" and token[0] in "abcdefghijklmnopqrstuvwxyz0123456789_"
                text += rnd.choice((" ", "\n", "  \n ") if close else ("", "", " ", "\n\n")) + token
            self.assertEqual(parse_module(text + rnd.choice(("", " ", "\n\n"))), module)

    def test_example(self):
        self.assertEqual(wrong_at("constant k 1 2 256"), 15)

    def test_empty_texts(self):
        self.assertEqual(parse_module(""), ((), ()))
        self.assertEqual(parse_module(" \n "), ((), ()))

    def test_wrong_tokens(self):
        rnd = random.Random(11)
        others = ["0", "1", "00", "01", "256", "4097", "1000000000", "999999999", "2147483648", "4294967296", "x", "get", "i8", "ptr",
                  "void", "null", "$", "@", "=", ",", ":", "(", ")", "{", "}", "*", "-", "!", "add", "ret", "stop", "br", "else", "eq",
                  "export", "internal", "global", "_", "A", ".", "\t", "\u0663", "%", "99999999999999999999999"]
        for seed in range(120):
            text = show_module(Freely(random.Random(seed)).module())
            tokens = tokens_of(text)
            for _ in range(25):
                if tokens:
                    self.look_at_change(text, *rnd.choice(tokens), rnd.choice(others), rnd.choice(tokens))

    def look_at_change(self, text, token, at, other, second):
        head, tail = text[:at], text[at + len(token):]
        changed = [head + tail, head + token + " " + token + tail, head + other + tail, head + " " + other + " " + token + tail, head,
                   head + token]
        far, near = max(at, second[1]), min(at, second[1])
        if far != near:
            one, two = (token, second[0]) if at < second[1] else (second[0], token)
            changed.append(text[:near] + two + text[near + len(one):far] + one + text[far + len(two):])
        for wrong in changed:
            self.assertEqual(wrong_at(wrong), GRAMMAR.find_wrong(wrong), wrong)

    def test_every_text_cut_off(self):
        for at in range(len(TEXT)):
            self.assertEqual(wrong_at(TEXT[:at]), GRAMMAR.find_wrong(TEXT[:at]), TEXT[:at])


class BoundsTest(unittest.TestCase):
    """Each bound at its greatest value and at the next one; ^ stands ahead of the wrong token."""

    def look(self, marked):
        expected = marked.find("^")
        text = marked.replace("^", "")
        self.assertEqual(wrong_at(text), expected, text)
        self.assertEqual(GRAMMAR.find_wrong(text), expected, text)

    def body(self, rows):
        self.look("export main i32 { 0(): " + rows + " stop !3 }")

    def test_integers(self):
        for kind, top in (("i1", 1), ("i8", 255), ("i16", 65535), ("i32", 2 ** 32 - 1), ("i64", 2 ** 64 - 1)):
            self.body(f"kill {kind} {top}")
            self.body(f"kill {kind} ^{top + 1}")
        for word in ("007", "00", "7x", "-1", "018446744073709551615", "9" * 5000, "$1", "null"):
            self.body(f"kill i8 ^{word}")
        self.body("kill ^ptr 5")
        self.body("kill ^void 5")

    def test_names_labels_and_places(self):
        self.body("$999999999 = load i8 $999999999 !999999999")
        self.body("$^1000000000 = load i8 $1")
        self.body("$1 = load i8 $^1000000000")
        self.body("$1 = load i8 $1 !^1000000000")
        self.body("$ ^01 = kill null")
        self.look("export f void { 999999999(): br 999999999() }")
        self.look("export f void { ^1000000000(): ret }")
        self.look("export f void { 0(): br ^1000000000() }")
        self.look("export f void { 0(): stop !^1000000000 }")
        self.look("export f void { 0($^1000000000 i8): ret }")

    def test_words_of_globals_and_functions(self):
        for word in ("abcdefghij0123456789", "a", "ret", "i8", "null", "global", "a__"):
            self.look(f"global {word} 1 export {word} void {{ 0(): kill @{word} call void {word}() !1 ret }}")
        for word in ("abcdefghij01234567890", "_a", "0a", "7", "get", "put", "exit", "malloc", "free"):
            self.look(f"global ^{word} 1")
            self.look(f"export ^{word} void {{ 0(): ret }}")
            self.body(f"kill @^{word}")
        for word in ("get", "put", "exit", "malloc", "free"):
            self.body(f"call void {word}()")
        for word in ("abcdefghij01234567890", "_a", "0a", "7"):
            self.body(f"call void ^{word}()")

    def test_kinds(self):
        for op in BINARIES + DIVISIONS:
            for kind in INTEGERS:
                self.body(f"{op} {kind} null, null")
            self.body(f"{op} ^ptr null, null")
            self.body(f"{op} ^void null, null")
        for op in ("trunc", "zext", "sext"):
            self.body(f"{op} i1 null")
            self.body(f"{op} ^ptr null")
        for rows in ("icmp eq {} null, null", "select {} null, null, null", "load {} null", "store {} null, null"):
            for kind in KINDS:
                self.body(rows.format(kind))
            self.body(rows.format("^void"))
            self.body(rows.format("^i3"))
        for kind in KINDS + ("void",):
            self.body(f"call {kind} f()")
            self.look(f"export f {kind} {{ 0(): ret }}")
        self.body("call ^i7 f()")
        self.body("icmp ^lt i8 null, null")
        self.look("export f void { 0($1 ^void): ret }")
        self.look("export f ^none { 0(): ret }")

    def test_sizes_offsets_and_scales(self):
        self.body("alloca 4096")
        self.body("alloca ^4097")
        self.body("alloca 1")
        self.body("alloca ^0")
        self.body("gep null, 2147483647, null * 2147483647")
        self.body("gep null, - 2147483648, null *- 2147483648")
        self.body("gep null, ^2147483648")
        self.body("gep null, -^2147483649")
        self.body("gep null, 1, null * ^2147483648")
        self.body("gep null, 1, null * -^2147483649")
        self.body("gep null, -^0")
        self.body("gep null, -^-1")
        self.body("gep null, 1, null * -^0")
        self.body("gep null, 0, null * 1, null * 1, null * 1, null * 1")
        self.body("gep null, 0, null * 1, null * 1, null * 1, null * 1^, null * 1")

    def test_values_of_switches_and_globals(self):
        self.look("export f void { 0(): switch null, 18446744073709551615: 0(), else 0() }")
        self.look("export f void { 0(): switch null, ^18446744073709551616: 0(), else 0() }")
        self.look("global g 255 0")
        self.look("global g ^256")
        self.look("global g 0 ^256")
        self.look("global g 0 ^00")
        self.look("global g ^-1")
        self.look("global g^")
        self.look("global g  ^")
        many = "global g" + " 7" * 4096
        self.assertEqual(len(parse_module(many)[0][0][2]), 4096)
        self.assertEqual(wrong_at(many + " 8"), len(many) + 1)
        self.assertEqual(wrong_at(many + " x"), len(many) + 1)
        self.assertEqual(wrong_at(many + " constant h 1"), -1)

    def test_order_of_parts(self):
        self.look("export f void { 0(): ret } ^global g 1")
        self.look("export f void { ^}")
        self.look("export f void { 0(): ^}")
        self.look("export f void { 0(): $1 = ^ret }")
        self.look("export f void { 0(): ret ^ptr 5 }")
        self.look("export f void { 0(): ret } ^x")
        self.look("export f void { 0(): stop ^}")
        self.look("export f void { 0(^,): ret }")
        self.look("export f void { 0($1 i8,^): ret }")
        self.look("export f void { 0(): ret ^$1 = load i8 null ret }".replace("^$1 =", "$1 ^="))
        self.look("export f void { 0(): ret }^\t")
        self.look("export f void { 0(): ret^;}")

    def test_what_is_not_checked(self):
        self.look("global g 1 global g 2 export f i8 { 0(): ret null 0(): $1 = kill i8 5 !4 load i8 null br 77($3) }")
        self.body("$1 = zext i8 i64 4 $1 = trunc i64 i8 4 $2 = icmp slt ptr i8 1, null call i8 put() call void f(null, null)")


if __name__ == "__main__":
    unittest.main()
