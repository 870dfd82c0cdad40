"""Promises 10.12 and 10.13: certificates as bytes."""

import random
import unittest

from burnish.check import check
from burnish.errors import BurnishError, PackError
from burnish.manager import PASSES, run_pass, whole_module
from burnish.packing import check_bytes, pack, unpack
from burnish.parse import parse_module
from passing import random_module
from test_bounds import shallow

SIGNS = "\n" + "".join(chr(code) for code in range(32, 127) if code != 37)


def nested(count, value=None):
    """Return a value within so many tuples."""
    for _ in range(count):
        value = (value,)
    return value


def slow_size(n):
    digits = []
    while True:
        digits.append(n % 128)
        n //= 128
        if n == 0:
            break
    return [digit + 128 for digit in digits[:-1]] + digits[-1:]


def slow_pack(value):
    """Return the bytes of a plain value, by the words of the document."""
    if value is None or value is False or value is True:
        return [[None, False, True].index(value)]
    if isinstance(value, int):
        return [3] + slow_size(value) if value >= 0 else [4] + slow_size(-1 - value)
    if isinstance(value, str):
        return [5] + slow_size(len(value)) + [ord(sign) for sign in value]
    return [6] + slow_size(len(value)) + [byte for item in value for byte in slow_pack(item)]


def plain_value(rnd, depth):
    sort = rnd.randrange(8 if depth else 6)
    if sort < 3:
        return (None, False, True)[sort]
    if sort == 3:
        return rnd.choice((-1, 1)) * rnd.choice((rnd.randrange(5), rnd.randrange(300), rnd.randrange(2 ** 70), 127, 128, 129, 16383, 16384))
    if sort < 6:
        return "".join(rnd.choice(SIGNS) for _ in range(rnd.choice((0, 1, 5, 130))))
    return tuple(plain_value(rnd, depth - 1) for _ in range(rnd.randrange(5)))


class PackTest(unittest.TestCase):

    def bad(self, data, at):
        with self.assertRaises(PackError) as caught:
            unpack(data)
        self.assertEqual(caught.exception.at, at, data)
        self.assertIsInstance(caught.exception, BurnishError)

    def test_example(self):
        self.assertEqual(pack(("fold_end", "f", 300)), [6, 3, 5, 8, 102, 111, 108, 100, 95, 101, 110, 100, 5, 1, 102, 3, 172, 2])
        self.assertEqual(unpack([6, 3, 5, 8, 102, 111, 108, 100, 95, 101, 110, 100, 5, 1, 102, 3, 172, 2]), ("fold_end", "f", 300))

    def test_each_kind(self):
        for value, data in ((None, [0]), (False, [1]), (True, [2]), (0, [3, 0]), (1, [3, 1]), (127, [3, 127]), (128, [3, 128, 1]), (16383, [3, 255, 127]), (16384, [3, 128, 128, 1]), (-1, [4, 0]), (-2, [4, 1]),
                            (-128, [4, 127]), (-129, [4, 128, 1]), ("", [5, 0]), ("a\n", [5, 2, 97, 10]), ("~ ", [5, 2, 126, 32]), ((), [6, 0]), (((), None), [6, 2, 6, 0, 0]), (10 ** 30, [3] + slow_size(10 ** 30))):
            self.assertEqual(pack(value), data)
            found = unpack(data)
            self.assertEqual(found, value)
            self.assertIs(type(found), type(value))
        self.assertEqual(pack("x" * 200), [5, 200, 1] + [120] * 200)
        self.assertEqual(unpack(pack(SIGNS)), SIGNS)

    def test_random(self):
        for seed in range(600):
            value = plain_value(random.Random(seed), 5)
            data = pack(value)
            self.assertEqual(data, slow_pack(value))
            self.assertEqual(unpack(data), value)
            # A list that is cut ends too soon.
            for k in range(len(data)) if len(data) < 60 else (0, 1, len(data) // 2, len(data) - 1):
                self.bad(data[:k], k)
            for more in (0, 3, 6, 255):
                self.bad(data + [more, more], len(data))

    def test_changed_bytes(self):
        # Whatever is changed, a list is refused, or it is the list of another value.
        for seed in range(1500):
            rnd = random.Random(seed)
            data = pack(plain_value(rnd, 3))
            data[rnd.randrange(len(data))] = rnd.randrange(256)
            try:
                value = unpack(data)
            except PackError as error:
                self.assertTrue(0 <= error.at <= len(data))
                # Up to there it is a list, or the beginning of one.
                try:
                    unpack(data[:error.at])
                except PackError as other:
                    self.assertEqual(other.at, error.at)
            else:
                self.assertEqual(pack(value), data)

    def test_wrong_lists(self):
        for code in (7, 8, 100, 127, 128, 255):
            self.bad([code], 0)
            self.bad([6, 2, 0, code], 3)
        self.bad([], 0)
        self.bad([3], 1)
        self.bad([3, 128], 2)
        self.bad([3, 128, 0], 2)
        self.bad([3, 255, 128, 0], 3)
        self.bad([4, 128, 0], 2)
        self.bad([5, 128, 0], 2)
        self.bad([6, 129, 0], 2)
        self.bad([5, 3, 97, 98], 4)
        self.bad([5, 2, 97, 37], 3)
        for code in (0, 9, 11, 31, 37, 127, 128, 255):
            self.bad([5, 1, code], 2)
        self.bad([6, 1], 2)
        self.bad([6, 255, 255, 255, 255, 127, 0], 7)
        self.bad([5, 255, 255, 255, 255, 127, 65], 7)
        self.bad([0, 0], 1)
        self.bad([6, 0, 6, 0], 2)
        self.bad([256], 0)
        self.bad([3, 256], 1)
        self.bad([3, -1], 1)

    def test_depth(self):
        for value in (None, (), 7):
            count = 59 if value == () else 60
            self.assertEqual(unpack(pack(nested(count, value))), nested(count, value))
            with self.assertRaises(PackError) as caught:
                pack(nested(count + 1, value))
            self.assertEqual(caught.exception.at, -1)
        self.assertEqual(shallow(lambda: unpack([6, 1] * 59 + [6, 0])), nested(59, ()))
        self.bad([6, 1] * 60 + [6, 0], 120)
        self.bad([6, 1] * 60 + [6], 120)
        self.bad([6, 1] * 60 + [7], 120)
        self.bad([6, 1] + [6, 2] * 59 + [0, 6], 121)
        # Depth counts tuples around one another, not beside.
        self.assertEqual(len(unpack(pack(tuple(nested(59) for _ in range(70))))), 70)

    def test_values_that_are_not_plain(self):
        for value in ([], [1], {}, b"a", 1.5, {1}, "a%b", "\t", "\r", "\x7f", "\u00e9", "\u2603", ("a", ["b"]), ((1, "%"),), range(3), print, object()):
            with self.assertRaises(PackError) as caught:
                pack(value)
            self.assertEqual(caught.exception.at, -1)

    def test_long_values(self):
        value = tuple(range(20000))
        self.assertEqual(shallow(lambda: unpack(shallow(lambda: pack(value)))), value)
        self.assertEqual(unpack(pack("ab" * 50000)), "ab" * 50000)
        self.assertEqual(unpack(pack(-7 ** 900)), -7 ** 900)


class CheckBytesTest(unittest.TestCase):

    def test_certificates(self):
        for seed in range(40):
            module = random_module(seed)
            for word in PASSES:
                certificate = run_pass(module, word, "" if whole_module(word) else module[1][0][0], -1)
                data = pack(certificate)
                self.assertEqual(unpack(data), certificate)
                self.assertEqual(check_bytes(module, data), check(module, certificate))

    def test_other_values(self):
        module = parse_module("export main i32 { 0(): ret i32 0 1(): ret i32 1 }")
        changed = parse_module("export main i32 { 0(): ret i32 0 }")
        self.assertEqual(check_bytes(module, pack((("prune", "main"),))), (changed, -1))
        self.assertEqual(check_bytes(module, pack((("prune", "main"), ("prune", "f")))), (None, 1))
        self.assertEqual(check_bytes(module, pack(())), (module, -1))
        for value in (None, True, False, 0, -5, "prune"):
            self.assertEqual(check_bytes(module, pack(value)), (None, 0))
        self.assertEqual(check_bytes(module, pack((None, 1))), (None, 0))
        for data, at in (([], 0), ([6, 1], 2), ([6, 0, 0], 2), ([9], 0)):
            with self.assertRaises(PackError) as caught:
                check_bytes(module, data)
            self.assertEqual(caught.exception.at, at)


if __name__ == "__main__":
    unittest.main()
