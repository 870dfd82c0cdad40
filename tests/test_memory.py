"""Promises 4.1 to 4.5, 4.7 and 4.10 for memory."""

import copy
import random
import unittest

from burnish.memory import add_object, allowed, end_life, first_memory, load_value, move_pointer, store_value
from burnish.parse import parse_module
from samples import INTEGERS, KINDS, TEXT

NULL = ("null",)
SIZES = {"i1": 1, "i8": 1, "i16": 2, "i32": 4, "i64": 8, "ptr": 8}
SORTS = ("global", "constant", "stack", "heap")


def memory_of(*sizes, sort="heap"):
    return tuple((sort, True, tuple(range(size))) for size in sizes)


def pieces(pointer):
    return tuple((pointer, k) for k in range(8))


class AccessTest(unittest.TestCase):

    def test_allowed(self):
        memory = memory_of(8, 3)
        for count in range(1, 9):
            for offset in (0, 1, 7 - count, 8 - count, 9 - count, 8, 9, 2 ** 63, 2 ** 64 - 1, 2 ** 64 - 8):
                if offset >= 0:
                    self.assertIs(allowed(memory, ("at", 0, offset), count), offset + count <= 8)
        self.assertIs(allowed(memory, ("at", 1, 0), 4), False)
        self.assertIs(allowed(memory, ("at", 1, 2), 1), True)
        self.assertIs(allowed(memory, NULL, 1), False)
        self.assertIs(allowed(memory, ("at", 2, 0), 1), False)
        for sort in SORTS:
            self.assertIs(allowed(((sort, True, (0,)),), ("at", 0, 0), 1), True)
            self.assertIs(allowed(((sort, False, (0,)),), ("at", 0, 0), 1), False)

    def test_load_of_integers(self):
        memory = memory_of(12)
        self.assertEqual(load_value(memory, ("at", 0, 1), "i8"), 1)
        self.assertEqual(load_value(memory, ("at", 0, 1), "i16"), 0x0201)
        self.assertEqual(load_value(memory, ("at", 0, 3), "i32"), 0x06050403)
        self.assertEqual(load_value(memory, ("at", 0, 4), "i64"), 0x0B0A090807060504)
        self.assertEqual([load_value(memory, ("at", 0, k), "i1") for k in range(4)], [0, 1, 0, 1])

    def test_places_of_loads_and_stores(self):
        for kind in KINDS:
            size = SIZES[kind]
            value = ("at", 0, 5) if kind == "ptr" else 1
            for length in (size, size + 3):
                memory = (("heap", True, (0,) * length),)
                for offset in (0, length - size, length - size + 1, length, 1000, 2 ** 64 - 1, 2 ** 64 - size):
                    fits = offset + size <= length
                    pointer = ("at", 0, offset)
                    told = load_value(memory, pointer, kind)
                    self.assertEqual(told, (NULL if kind == "ptr" else 0) if fits else None)
                    changed = store_value(memory, pointer, kind, value)
                    self.assertEqual(changed is not None, fits)
                    if fits:
                        self.assertEqual(load_value(changed, pointer, kind), value)
                        self.assertEqual(changed[0][2][:offset] + changed[0][2][offset + size:], (0,) * (length - size))
                dead = end_life(memory, 0)
                self.assertIsNone(load_value(dead, ("at", 0, 0), kind))
                self.assertIsNone(store_value(dead, ("at", 0, 0), kind, value))
            self.assertIsNone(load_value(memory, NULL, kind))
            self.assertIsNone(store_value(memory, NULL, kind, value))

    def test_sorts(self):
        for sort in SORTS:
            memory = ((sort, True, (7,) * 8),)
            for kind in INTEGERS:
                self.assertEqual(load_value(memory, ("at", 0, 0), kind), int.from_bytes(bytes([7] * SIZES[kind]), "little") if kind != "i1" else 1)
                changed = store_value(memory, ("at", 0, 0), kind, 1)
                self.assertEqual(changed is None, sort == "constant")
            self.assertEqual(store_value(memory, ("at", 0, 0), "ptr", NULL) is None, sort == "constant")

    def test_store_of_integers(self):
        memory = memory_of(4, 8, 2)
        self.assertEqual(store_value(memory, ("at", 1, 2), "i32", 0x0A0B0C0D),
                         (memory[0], ("heap", True, (0, 1, 0x0D, 0x0C, 0x0B, 0x0A, 6, 7)), memory[2]))
        self.assertEqual(store_value(memory, ("at", 2, 1), "i1", 1)[2], ("heap", True, (0, 1)))
        self.assertEqual(store_value(memory, ("at", 2, 1), "i1", 0)[2], ("heap", True, (0, 0)))
        self.assertEqual(store_value(memory, ("at", 0, 0), "i8", 255)[0][2], (255, 1, 2, 3))
        self.assertEqual(store_value(memory, ("at", 1, 0), "i64", 2 ** 64 - 2)[1][2], (254,) + (255,) * 7)

    def test_i1_is_the_lowest_bit(self):
        for byte in range(256):
            self.assertEqual(load_value((("stack", True, (byte,)),), ("at", 0, 0), "i1"), byte % 2)


class PointerTest(unittest.TestCase):

    def test_pointers_in_memory(self):
        memory = (("stack", True, (9,) * 10), ("heap", True, (0,) * 4))
        pointer = ("at", 1, 2 ** 64 - 3)
        changed = store_value(memory, ("at", 0, 1), "ptr", pointer)
        self.assertEqual(changed[0][2], (9,) + pieces(pointer) + (9,))
        self.assertEqual(load_value(changed, ("at", 0, 1), "ptr"), pointer)
        for offset in (0, 2):
            self.assertIsNone(load_value(changed, ("at", 0, offset), "ptr"))
        for kind in INTEGERS:
            for offset in range(1, 11 - SIZES[kind]):
                self.assertEqual(load_value(changed, ("at", 0, offset), kind) is None, offset < 9)
        self.assertEqual(load_value(changed, ("at", 0, 0), "i8"), 9)
        self.assertIsNone(load_value(changed, ("at", 0, 0), "i16"))
        self.assertEqual(store_value(changed, ("at", 0, 1), "ptr", NULL)[0][2], (9,) + (0,) * 8 + (9,))

    def test_pieces_in_order_alone_are_a_pointer(self):
        pointer, other = ("at", 0, 4), ("at", 0, 5)
        good = pieces(pointer)
        self.assertEqual(load_value((("heap", True, good),), ("at", 0, 0), "ptr"), pointer)
        wrong = [good[1:] + good[:1], good[:3] + (good[4], good[3]) + good[5:], good[:7] + (pieces(other)[7],), pieces(other)[:1] + good[1:],
                 good[:7] + (0,), (0,) + good[1:], (0,) * 7 + (1,), (7,) * 8, (0,) * 7 + good[7:], (good[0],) * 8]
        for cells in wrong:
            self.assertIsNone(load_value((("heap", True, cells),), ("at", 0, 0), "ptr"), cells)
        self.assertEqual(load_value((("heap", True, (0,) * 8),), ("at", 0, 0), "ptr"), NULL)

    def test_a_partly_overwritten_pointer(self):
        memory = store_value((("heap", True, (0,) * 16),), ("at", 0, 0), "ptr", ("at", 0, 8))
        changed = store_value(memory, ("at", 0, 3), "i8", 0)
        self.assertEqual(changed[0][2][:8], pieces(("at", 0, 8))[:3] + (0,) + pieces(("at", 0, 8))[4:])
        self.assertIsNone(load_value(changed, ("at", 0, 0), "ptr"))
        self.assertEqual(load_value(changed, ("at", 0, 3), "i8"), 0)
        over = store_value(memory, ("at", 0, 4), "ptr", ("at", 0, 1))
        self.assertEqual(over[0][2][:12], pieces(("at", 0, 8))[:4] + pieces(("at", 0, 1)))
        self.assertEqual(load_value(over, ("at", 0, 4), "ptr"), ("at", 0, 1))
        self.assertIsNone(load_value(over, ("at", 0, 0), "ptr"))

    def test_move_pointer(self):
        self.assertEqual(move_pointer(NULL, 10 ** 40), NULL)
        self.assertEqual(move_pointer(("at", 3, 5), 4), ("at", 3, 9))
        self.assertEqual(move_pointer(("at", 3, 5), -6), ("at", 3, 2 ** 64 - 1))
        self.assertEqual(move_pointer(("at", 3, 2 ** 64 - 1), 1), ("at", 3, 0))
        self.assertEqual(move_pointer(("at", 3, 7), 5 * 2 ** 64 + 2), ("at", 3, 9))
        self.assertEqual(move_pointer(("at", 3, 7), -5 * 2 ** 64 - 8), ("at", 3, 2 ** 64 - 1))
        self.assertEqual(move_pointer(("at", 3, 7), 0), ("at", 3, 7))


class ObjectTest(unittest.TestCase):

    def test_add_object(self):
        self.assertEqual(add_object((), "stack", (0, 0)), (((("stack", True, (0, 0)),)), ("at", 0, 0)))
        memory = memory_of(1, 2)
        told, pointer = add_object(memory, "heap", (5,))
        self.assertEqual(told, memory + (("heap", True, (5,)),))
        self.assertEqual(pointer, ("at", 2, 0))

    def test_end_life(self):
        memory = memory_of(1, 2, 3, sort="stack")
        self.assertEqual(end_life(memory, 1), (memory[0], ("stack", False, (0, 1)), memory[2]))
        self.assertEqual(end_life(end_life(memory, 1), 1), end_life(memory, 1))

    def test_first_memory(self):
        self.assertEqual(first_memory(parse_module(TEXT)), (("global", True, (7, 0, 0, 0)), ("constant", True, (255,))))
        self.assertEqual(first_memory(((), ())), ())

    def test_nothing_is_changed(self):
        rnd = random.Random(4)
        memory = (("heap", True, (0,) * 12), ("constant", True, (1,) * 8), ("stack", False, (1,) * 8))
        for _ in range(300):
            before = copy.deepcopy(memory)
            pointer = ("at", rnd.randrange(3), rnd.randrange(10))
            kind = rnd.choice(KINDS)
            load_value(memory, pointer, kind)
            changed = store_value(memory, pointer, kind, rnd.randrange(2) if kind != "ptr" else ("at", 0, rnd.randrange(3)))
            end_life(memory, pointer[1])
            add_object(memory, "heap", (1,))
            self.assertEqual(memory, before)
            memory = changed or memory


if __name__ == "__main__":
    unittest.main()
