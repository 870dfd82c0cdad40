"""Promises 1.1 to 1.6: words, kinds and errors."""

import unittest

from burnish import errors
from burnish.words import (
    binary, bytes_of, cast, compare, from_bytes, opposite, signed, size, swapped, width, wrap,
)

WIDTHS = {"i1": 1, "i8": 8, "i16": 16, "i32": 32, "i64": 64}
OPS = ("add", "sub", "mul", "and", "or", "xor", "shl", "lshr", "ashr", "udiv", "urem", "sdiv", "srem")
PREDICATES = ("eq", "ne", "ult", "ule", "ugt", "uge", "slt", "sle", "sgt", "sge")


def edge_values(w):
    """Return ordinary values of a width, and those at its edges."""
    top, half = 2 ** w - 1, 2 ** (w - 1)
    found = {0, 1, 2, 3, 5, 7, w - 1, w, w + 1, half - 2, half - 1, half, half + 1, top - 1, top, top // 3, top // 5 * 2}
    return sorted(x for x in found if 0 <= x <= top)


def low_wrap(w, n):
    return ((n % 2 ** w) + 2 ** w) % 2 ** w


def as_signed(w, x):
    return x if x < 2 ** (w - 1) else x - 2 ** w


def toward_zero(a, b):
    quotient = 0
    if a * b < 0:
        quotient = -((-a) // b if b > 0 else a // -b)
    elif a:
        quotient = a // b
    return quotient


def expected_binary(op, w, x, y):
    a, b = as_signed(w, x), as_signed(w, y)
    if op in ("udiv", "urem", "sdiv", "srem") and y == 0:
        return None
    if op == "udiv":
        return x // y
    if op == "urem":
        return x - x // y * y
    if op == "sdiv":
        return low_wrap(w, toward_zero(a, b))
    if op == "srem":
        return low_wrap(w, a - b * toward_zero(a, b))
    if op == "shl":
        return 0 if y >= w else low_wrap(w, x * 2 ** y)
    if op == "lshr":
        return 0 if y >= w else x // 2 ** y
    if op == "ashr":
        return low_wrap(w, (-1 if a < 0 else 0) if y >= w else a // 2 ** y)
    bits = range(w)
    if op in ("and", "or", "xor"):
        told = {"and": lambda p, q: p and q, "or": lambda p, q: p or q, "xor": lambda p, q: p != q}[op]
        return sum(2 ** k for k in bits if told(x // 2 ** k % 2 == 1, y // 2 ** k % 2 == 1))
    return low_wrap(w, {"add": x + y, "sub": x - y, "mul": x * y}[op])


def expected_compare(predicate, w, x, y):
    if predicate[0] == "s":
        x, y = as_signed(w, x), as_signed(w, y)
    relation = predicate[-2:]
    told = {"eq": x == y, "ne": not x == y, "lt": x < y, "le": not y < x, "gt": y < x, "ge": not x < y}[relation]
    return 1 if told else 0


class WordsTest(unittest.TestCase):

    def test_kinds(self):
        self.assertEqual([width(kind) for kind in WIDTHS], [1, 8, 16, 32, 64])
        self.assertEqual([size(kind) for kind in WIDTHS], [1, 1, 2, 4, 8])
        self.assertEqual(size("ptr"), 8)

    def test_signed_and_wrap(self):
        for w in WIDTHS.values():
            for x in edge_values(w):
                self.assertEqual(signed(w, x), as_signed(w, x))
            for n in (0, 1, -1, 2 ** w, 2 ** w - 1, 2 ** w + 1, -2 ** w, -2 ** w - 1, 3 * 2 ** w + 5, -10 ** 30, 10 ** 30):
                self.assertEqual(wrap(w, n), n % 2 ** w)
        self.assertEqual((signed(1, 1), signed(1, 0)), (-1, 0))

    def test_binary_at_edges(self):
        for w in WIDTHS.values():
            for op in OPS:
                for x in edge_values(w):
                    for y in edge_values(w):
                        told = binary(op, w, x, y)
                        self.assertEqual(told, expected_binary(op, w, x, y), (op, w, x, y))
                        self.assertNotIsInstance(told, bool)

    def test_binary_of_all_bytes(self):
        for op in OPS:
            for x in range(0, 256, 3):
                for y in range(256):
                    self.assertEqual(binary(op, 8, x, y), expected_binary(op, 8, x, y), (op, x, y))

    def test_shifts_by_the_width_and_more(self):
        for w in WIDTHS.values():
            top = 2 ** w - 1
            for y in (w, w + 1, 63, 64, 2 ** w - 1):
                if w <= y <= top:
                    self.assertEqual(binary("shl", w, top, y), 0)
                    self.assertEqual(binary("lshr", w, top, y), 0)
                    self.assertEqual(binary("ashr", w, top, y), top)
                    self.assertEqual(binary("ashr", w, top // 2, y), 0)
        self.assertEqual(binary("shl", 64, 1, 2 ** 64 - 1), 0)
        self.assertEqual([binary(op, 1, 1, 1) for op in ("shl", "lshr", "ashr")], [0, 0, 1])

    def test_least_value_divided_by_minus_one(self):
        for w in WIDTHS.values():
            least, minus = 2 ** (w - 1), 2 ** w - 1
            self.assertEqual(binary("sdiv", w, least, minus), least)
            self.assertEqual(binary("srem", w, least, minus), 0)

    def test_division_by_zero(self):
        for w in WIDTHS.values():
            for op in ("udiv", "urem", "sdiv", "srem"):
                self.assertIsNone(binary(op, w, 1, 0))
                self.assertIsNone(binary(op, w, 0, 0))

    def test_compare(self):
        for w in WIDTHS.values():
            for predicate in PREDICATES:
                for x in edge_values(w):
                    for y in edge_values(w):
                        told = compare(predicate, w, x, y)
                        self.assertEqual(told, expected_compare(predicate, w, x, y), (predicate, w, x, y))
                        self.assertNotIsInstance(told, bool)

    def test_opposite_and_swapped(self):
        pairs = (("eq", "ne"), ("ult", "uge"), ("ule", "ugt"), ("slt", "sge"), ("sle", "sgt"))
        for one, other in pairs:
            self.assertEqual((opposite(one), opposite(other)), (other, one))
        for predicate in PREDICATES:
            for x in range(256):
                for y in (0, 1, 127, 128, 254, 255, x):
                    told = compare(predicate, 8, x, y)
                    self.assertEqual(compare(opposite(predicate), 8, x, y), 1 - told)
                    self.assertEqual(compare(swapped(predicate), 8, y, x), told)
        self.assertEqual((swapped("eq"), swapped("ne"), swapped("ult"), swapped("sle")), ("eq", "ne", "ugt", "sge"))

    def test_cast(self):
        for v in WIDTHS.values():
            for w in WIDTHS.values():
                for x in edge_values(v):
                    if w < v:
                        self.assertEqual(cast("trunc", v, w, x), x % 2 ** w)
                    if w > v:
                        self.assertEqual(cast("zext", v, w, x), x)
                        self.assertEqual(cast("sext", v, w, x), as_signed(v, x) % 2 ** w)

    def test_bytes(self):
        self.assertEqual(bytes_of(4, 0x01020304), [4, 3, 2, 1])
        self.assertEqual(bytes_of(2, 0x01020304), [4, 3])
        self.assertEqual(bytes_of(1, 0), [0])
        self.assertEqual(bytes_of(8, 2 ** 64 - 1), [255] * 8)
        self.assertEqual(bytes_of(0, 77), [])
        self.assertEqual(from_bytes([]), 0)
        row = [4, 3, 2, 1]
        self.assertEqual(from_bytes(row), 0x01020304)
        self.assertEqual(row, [4, 3, 2, 1])
        for count in (1, 2, 4, 8):
            for x in edge_values(8 * count):
                first = bytes_of(count, x)
                self.assertIsInstance(first, list)
                self.assertEqual(from_bytes(first), x)
                first.append(7)
                self.assertEqual(len(bytes_of(count, x)), count)

    def test_examples(self):
        self.assertEqual(binary("sdiv", 8, 249, 2), 253)
        self.assertEqual(binary("ashr", 8, 128, 9), 255)
        self.assertEqual(compare("slt", 8, 255, 0), 1)
        self.assertEqual(cast("sext", 8, 16, 200), 65480)


class ErrorsTest(unittest.TestCase):

    def test_each_error_is_below_the_base_and_has_its_field(self):
        self.assertTrue(issubclass(errors.BurnishError, ValueError))
        fields = (
            (errors.TextError, "at", 15), (errors.ScriptError, "at", 0), (errors.PackError, "at", -1),
            (errors.UnknownPass, "word", "polish"), (errors.UnknownFunction, "name", "f"),
        )
        for error, field, value in fields:
            made = error(value)
            self.assertIsInstance(made, errors.BurnishError)
            self.assertIsInstance(made, ValueError)
            self.assertEqual(getattr(made, field), value)
            self.assertEqual(vars(made), {field: value})
            with self.assertRaises(errors.BurnishError):
                raise made


if __name__ == "__main__":
    unittest.main()
