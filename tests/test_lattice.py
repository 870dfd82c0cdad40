"""Promises 6.1 to 6.5: ranges."""

import random
import unittest

from burnish.lattice import decide, full, normal, refine, single, transfer, union, within
from burnish.words import binary, cast, compare
from samples import BINARIES, DIVISIONS, INTEGERS, PREDICATES, WIDTHS

SMALL = ("i1", "i8")
TOPS = {kind: 2 ** w - 1 for kind, w in WIDTHS.items()}


def holds(bounds, v):
    lo, hi, zeros, ones = bounds
    return lo <= v <= hi and v & zeros == 0 and v & ones == ones


def values_of(kind, bounds):
    if bounds is None:
        return []
    return [v for v in range(TOPS[kind] + 1) if holds(bounds, v)]


def edge_values(kind):
    top = TOPS[kind]
    half = (top + 1) // 2
    return sorted({v for v in (0, 1, 2, 3, half - 2, half - 1, half, half + 1, top - 1, top) if 0 <= v <= top})


def range_around(rnd, kind, values, loose):
    """Return the tight range of some values, made loose in places if that is asked."""
    top = TOPS[kind]
    lo, hi, zeros, ones = min(values), max(values), top, top
    for v in values:
        zeros, ones = zeros & (top - v), ones & v
    if loose:
        zeros, ones = zeros & rnd.randrange(top + 1), ones & rnd.randrange(top + 1)
        lo, hi = rnd.choice((lo, 0, lo // 2, lo)), rnd.choice((hi, top, hi, min(top, hi + 1)))
    return (lo, hi, zeros, ones)


def some_range(rnd, kind):
    top = TOPS[kind]
    count = rnd.choice((1, 1, 2, 2, 3, 6))
    values = [rnd.choice(edge_values(kind) + [rnd.randrange(top + 1)] * 4 + [rnd.randrange(min(top, 15) + 1)] * 4) for _ in range(count)]
    if rnd.random() < 0.5:
        low = rnd.choice(values)
        values = [min(top, low + rnd.randrange(5)) for _ in values]
    return range_around(rnd, kind, values, rnd.random() < 0.5)


def slow_normal(kind, bounds):
    """Make a range normal bit by bit, as [6.2] says."""
    w = WIDTHS[kind]
    while True:
        lo, hi, zeros, ones = old = bounds
        if lo > hi or zeros & ones:
            return None
        for k in reversed(range(w)):
            if lo >> k & 1 != hi >> k & 1:
                break
            if lo >> k & 1:
                ones |= 1 << k
            else:
                zeros |= 1 << k
        if zeros & ones:
            return None
        lo, hi = max(lo, ones), min(hi, TOPS[kind] - zeros)
        if lo > hi:
            return None
        if lo == hi:
            if not holds((lo, hi, zeros, ones), lo):
                return None
            zeros, ones = TOPS[kind] - lo, lo
        bounds = (lo, hi, zeros, ones)
        if bounds == old:
            return bounds


def bit(mask, k):
    return mask >> k & 1


def bits(w, test):
    return sum(1 << k for k in range(w) if test(k))


def slow_row(op, kind, a, b):
    """Return the row of [6.3] for a binary operation, not made normal, or None for a trap."""
    w, top = WIDTHS[kind], TOPS[kind]
    lo1, hi1, z1, o1 = a
    lo2, hi2, z2, o2 = b
    if op == "and":
        return (0, min(hi1, hi2), z1 | z2, o1 & o2)
    if op == "or":
        return (max(lo1, lo2), top, z1 & z2, o1 | o2)
    if op == "xor":
        known = (z1 | o1) & (z2 | o2)
        return (0, top, known & ~(o1 ^ o2), known & (o1 ^ o2))
    if op in ("add", "sub", "mul"):
        k = 0
        while k < w and bit(z1 | o1, k) and bit(z2 | o2, k):
            k += 1
        low = binary(op, w, o1 % 2 ** k, o2 % 2 ** k) % 2 ** k
        zeros, ones = 2 ** k - 1 - low, low
        bounds = (0, top)
        if op == "add":
            if hi1 + hi2 <= top:
                bounds = (lo1 + lo2, hi1 + hi2)
            elif lo1 + lo2 > top:
                bounds = (lo1 + lo2 - 2 ** w, hi1 + hi2 - 2 ** w)
        elif op == "sub":
            if lo1 >= hi2:
                bounds = (lo1 - hi2, hi1 - lo2)
            elif hi1 < lo2:
                bounds = (lo1 - hi2 + 2 ** w, hi1 - lo2 + 2 ** w)
        elif hi1 * hi2 <= top:
            bounds = (lo1 * lo2, hi1 * hi2)
        return bounds + (zeros, ones)
    if op in ("udiv", "urem"):
        if hi2 == 0:
            return None
        if lo2 == hi2:
            if op == "udiv":
                return (lo1 // lo2, hi1 // lo2, 0, 0)
            return (lo1, hi1, 0, 0) if hi1 < lo2 else (0, lo2 - 1, 0, 0)
        return (0, hi1, 0, 0) if op == "udiv" else (0, min(hi1, hi2 - 1), 0, 0)
    if op in ("shl", "lshr", "ashr") and lo2 == hi2 and (op != "ashr" or bit(z1, w - 1)):
        c = lo2
        if c >= w:
            return (0, 0, top, 0)
        if op == "shl":
            bounds = (lo1 << c, hi1 << c) if hi1 << c <= top else (0, top)
            return bounds + (bits(w, lambda k: k < c or bit(z1, k - c)), bits(w, lambda k: k >= c and bit(o1, k - c)))
        return (lo1 >> c, hi1 >> c, bits(w, lambda k: k >= w - c or bit(z1, k + c)), o1 >> c)
    return (0, top, 0, 0)


def slow_transfer(op, kind, a, b):
    if a[0] == a[1] and b[0] == b[1]:
        result = binary(op, WIDTHS[kind], a[0], b[0])
        return None if result is None else single(kind, result)
    row = slow_row(op, kind, a, b)
    return None if row is None else slow_normal(kind, row)


class RangeTest(unittest.TestCase):

    def test_full_and_single(self):
        self.assertEqual(full("i1"), (0, 1, 0, 0))
        self.assertEqual(full("i64"), (0, 2 ** 64 - 1, 0, 0))
        self.assertEqual(single("i8", 5), (5, 5, 250, 5))
        self.assertEqual((single("i1", 0), single("i1", 1)), ((0, 0, 1, 0), (1, 1, 0, 1)))
        for v in range(256):
            self.assertEqual(values_of("i8", single("i8", v)), [v])

    def test_union_and_within(self):
        a, b = (3, 9, 0b11110000, 0b1), (5, 20, 0b11000010, 0b101)
        self.assertEqual(union(a, b), (3, 20, 0b11000000, 0b1))
        self.assertEqual(union(b, a), union(a, b))
        rnd = random.Random(1)
        for _ in range(300):
            kind = rnd.choice(INTEGERS)
            a, b = some_range(rnd, kind), some_range(rnd, kind)
            both = union(a, b)
            self.assertTrue(within(a, both) and within(b, both) and within(a, a) and within(a, full(kind)))
            expected = b[0] <= a[0] and a[1] <= b[1] and a[2] | b[2] == a[2] and a[3] | b[3] == a[3]
            self.assertIs(within(a, b), expected)
        self.assertIs(within((3, 9, 0, 0), (3, 8, 0, 0)), False)
        self.assertIs(within((3, 9, 0, 0), (4, 9, 0, 0)), False)
        self.assertIs(within((3, 9, 16, 0), (3, 9, 48, 0)), False)
        self.assertIs(within((3, 9, 0, 1), (3, 9, 0, 3)), False)

    def test_normal(self):
        self.assertIsNone(normal("i8", (5, 4, 0, 0)))
        self.assertIsNone(normal("i8", (0, 255, 1, 1)))
        self.assertIsNone(normal("i8", (4, 5, 4, 0)))
        self.assertIsNone(normal("i8", (5, 5, 1, 0)))
        self.assertIsNone(normal("i8", (4, 4, 0, 1)))
        self.assertEqual(normal("i8", (5, 5, 0, 0)), single("i8", 5))
        self.assertEqual(normal("i8", (4, 5, 1, 0)), single("i8", 4))
        self.assertEqual(normal("i8", (0, 10, 0, 0)), (0, 10, 240, 0))
        self.assertEqual(normal("i8", (0, 255, 0, 0)), full("i8"))
        self.assertEqual(normal("i8", (8, 11, 0, 0)), (8, 11, 244, 8))
        self.assertEqual(normal("i8", (0, 255, 0xF0, 0x03)), (3, 15, 0xF0, 3))
        self.assertEqual(normal("i64", (2 ** 63, 2 ** 64 - 1, 0, 0)), (2 ** 63, 2 ** 64 - 1, 0, 2 ** 63))
        self.assertEqual(normal("i1", (0, 1, 0, 1)), single("i1", 1))

    def test_normal_against_bits(self):
        rnd = random.Random(2)
        for _ in range(2000):
            kind = rnd.choice(INTEGERS)
            top = TOPS[kind]
            bounds = some_range(rnd, kind)
            if rnd.random() < 0.4:
                bounds = (rnd.choice(edge_values(kind)), rnd.choice(edge_values(kind)), bounds[2] | rnd.randrange(top + 1) & rnd.randrange(top + 1),
                          rnd.randrange(top + 1) & rnd.randrange(top + 1) & rnd.randrange(top + 1))
            told = normal(kind, bounds)
            self.assertEqual(told, slow_normal(kind, bounds), (kind, bounds))
            if told is not None:
                self.assertEqual(normal(kind, told), told)
            if kind in SMALL:
                self.assertEqual(values_of(kind, told), values_of(kind, bounds))


class TransferTest(unittest.TestCase):

    def test_binary_operations(self):
        rnd = random.Random(3)
        for _ in range(5000):
            op, kind = rnd.choice(BINARIES + DIVISIONS), rnd.choice(INTEGERS)
            a, b = some_range(rnd, kind), some_range(rnd, kind)
            if rnd.random() < 0.3:
                b = single(kind, rnd.choice([v for v in (0, 1, 2, 3, 7, 8, 9, 63, 64, TOPS[kind]) if v <= TOPS[kind]]))
            told = transfer(op, kind, (), (kind, kind), (a, b))
            self.assertEqual(told, slow_transfer(op, kind, a, b), (op, kind, a, b))
            if kind in SMALL:
                self.look_at_results(op, kind, a, b, told)

    def look_at_results(self, op, kind, a, b, told):
        for x in values_of(kind, a)[:40]:
            for y in values_of(kind, b)[-40:]:
                result = binary(op, WIDTHS[kind], x, y)
                if result is not None:
                    self.assertTrue(told is not None and holds(told, result), (op, kind, a, b, x, y))

    def test_rows(self):
        def told(op, a, b):
            return transfer(op, "i8", (), ("i8", "i8"), (a, b))
        all8 = full("i8")
        self.assertEqual(told("add", (0, 9, 240, 0), single("i8", 1)), (1, 10, 240, 0))
        self.assertEqual(told("add", (250, 255, 0, 0), (10, 20, 0, 0)), normal("i8", (4, 19, 0, 0)))
        self.assertEqual(told("add", (250, 255, 0, 0), (1, 20, 0, 0)), all8)
        self.assertEqual(told("add", (0, 254, 1, 0), (0, 254, 1, 0)), (0, 254, 1, 0))
        self.assertEqual(told("sub", (10, 20, 0, 0), (1, 10, 0, 0)), normal("i8", (0, 19, 0, 0)))
        self.assertEqual(told("sub", (1, 2, 0, 0), (3, 9, 0, 0)), normal("i8", (248, 255, 0, 0)))
        self.assertEqual(told("sub", (1, 3, 0, 0), (3, 9, 0, 0)), all8)
        self.assertEqual(told("mul", (2, 5, 0, 0), (3, 51, 0, 0)), (6, 255, 0, 0))
        self.assertEqual(told("mul", (2, 5, 0, 0), (3, 52, 0, 0)), all8)
        self.assertEqual(told("and", all8, single("i8", 12)), normal("i8", (0, 12, 243, 0)))
        self.assertEqual(told("or", (3, 9, 0, 0), single("i8", 64)), normal("i8", (64, 255, 0, 64)))
        self.assertEqual(told("xor", (0, 255, 240, 1), (0, 255, 128, 3)), normal("i8", (0, 255, 129, 0)))
        self.assertEqual(told("shl", (1, 31, 0, 0), single("i8", 3)), (8, 248, 7, 0))
        self.assertEqual(told("shl", (1, 32, 0, 0), single("i8", 3)), (0, 248, 7, 0))
        self.assertEqual(told("shl", all8, single("i8", 8)), single("i8", 0))
        self.assertEqual(told("shl", single("i8", 1), all8), all8)
        self.assertEqual(told("lshr", all8, single("i8", 3)), (0, 31, 224, 0))
        self.assertEqual(told("lshr", all8, single("i8", 200)), single("i8", 0))
        self.assertEqual(told("ashr", all8, single("i8", 3)), all8)
        self.assertEqual(told("ashr", (0, 127, 128, 0), single("i8", 3)), (0, 15, 240, 0))
        self.assertEqual(told("ashr", (0, 127, 128, 0), single("i8", 9)), single("i8", 0))
        self.assertEqual(told("udiv", (7, 100, 0, 0), single("i8", 10)), normal("i8", (0, 10, 0, 0)))
        self.assertEqual(told("udiv", (7, 100, 0, 0), (0, 9, 0, 0)), normal("i8", (0, 100, 0, 0)))
        self.assertEqual(told("urem", (3, 9, 0, 0), single("i8", 10)), normal("i8", (3, 9, 0, 0)))
        self.assertEqual(told("urem", (3, 10, 0, 0), single("i8", 10)), normal("i8", (0, 9, 0, 0)))
        self.assertEqual(told("urem", (3, 200, 0, 0), (0, 7, 0, 0)), normal("i8", (0, 6, 0, 0)))
        for op in ("udiv", "urem"):
            self.assertIsNone(told(op, all8, single("i8", 0)))
        for op in DIVISIONS:
            self.assertIsNone(told(op, single("i8", 4), single("i8", 0)))
        for op in ("sdiv", "srem"):
            self.assertEqual(told(op, all8, single("i8", 3)), all8)
            self.assertEqual(told(op, all8, single("i8", 0)), all8)
        self.assertEqual(told("sdiv", single("i8", 249), single("i8", 2)), single("i8", 253))

    def test_casts(self):
        rnd = random.Random(4)
        for _ in range(3000):
            old, new = rnd.sample(INTEGERS, 2)
            op = "trunc" if WIDTHS[new] < WIDTHS[old] else rnd.choice(("zext", "sext"))
            a = some_range(rnd, old)
            lo, hi, zeros, ones = a
            top, before = TOPS[new], TOPS[old]
            if lo == hi:
                expected = single(new, cast(op, WIDTHS[old], WIDTHS[new], lo))
            elif op == "trunc":
                expected = slow_normal(new, ((lo, hi) if hi <= top else (0, top)) + (zeros & top, ones & top))
            elif op == "sext" and not bit(zeros, WIDTHS[old] - 1):
                expected = full(new)
            else:
                expected = slow_normal(new, (lo, hi, zeros | (top & ~before), ones))
            self.assertEqual(transfer(op, new, (), (old,), (a,)), expected, (op, old, new, a))
        self.assertEqual(transfer("zext", "i16", (), ("i8",), (full("i8"),)), (0, 255, 0xFF00, 0))
        self.assertEqual(transfer("sext", "i16", (), ("i8",), (full("i8"),)), full("i16"))
        self.assertEqual(transfer("sext", "i16", (), ("i8",), (single("i8", 200),)), single("i16", 65480))
        self.assertEqual(transfer("sext", "i16", (), ("i8",), ((0, 127, 128, 0),)), (0, 127, 0xFF80, 0))
        self.assertEqual(transfer("trunc", "i8", (), ("i16",), ((3, 255, 0, 0),)), (3, 255, 0, 0))
        self.assertEqual(transfer("trunc", "i8", (), ("i16",), ((3, 256, 1, 0),)), (0, 254, 1, 0))

    def test_select(self):
        one, nil, any1 = single("i1", 1), single("i1", 0), full("i1")
        a, b = (3, 9, 0, 0), (5, 20, 0, 0)
        kinds = ("i1", "i8", "i8")
        self.assertEqual(transfer("select", "i8", (), kinds, (one, a, b)), normal("i8", a))
        self.assertEqual(transfer("select", "i8", (), kinds, (nil, a, b)), normal("i8", b))
        self.assertEqual(transfer("select", "i8", (), kinds, (any1, a, b)), normal("i8", (3, 20, 0, 0)))
        self.assertEqual(transfer("select", "i8", (), kinds, (any1, single("i8", 4), single("i8", 6))), (4, 6, 249, 4))
        self.assertEqual(transfer("select", "i8", (), kinds, (one, single("i8", 4), single("i8", 6))), single("i8", 4))
        self.assertIsNone(transfer("select", "i8", (), kinds, (one, (5, 5, 1, 0), single("i8", 6))))
        self.assertIsNone(transfer("select", "i8", (), kinds, (one, (6, 5, 0, 0), b)))

    def test_icmp(self):
        self.assertEqual(transfer("icmp", "ptr", ("eq",), ("ptr", "ptr"), (None, None)), full("i1"))
        rnd = random.Random(6)
        for _ in range(2000):
            kind, predicate = rnd.choice(INTEGERS), rnd.choice(PREDICATES)
            a, b = some_range(rnd, kind), some_range(rnd, kind)
            told = transfer("icmp", kind, (predicate,), (kind, kind), (a, b))
            if a[0] == a[1] and b[0] == b[1]:
                self.assertEqual(told, single("i1", compare(predicate, WIDTHS[kind], a[0], b[0])))
            else:
                decided = decide(predicate, kind, a, b)
                self.assertEqual(told, full("i1") if decided is None else single("i1", decided))


def slow_less(a, b):
    return 1 if a[1] < b[0] else 0 if a[0] >= b[1] else None


def slow_decide(predicate, kind, a, b):
    """Decide a comparison as [6.4] says."""
    if predicate in ("eq", "ne"):
        told = None
        if a[1] < b[0] or b[1] < a[0] or any(bit(a[3] & b[2] | a[2] & b[3], k) for k in range(64)):
            told = 0
        elif a[0] == a[1] == b[0] == b[1]:
            told = 1
        return told if told is None or predicate == "eq" else 1 - told
    top = WIDTHS[kind] - 1
    if predicate[0] == "s":
        known_a, known_b = bit(a[2] | a[3], top), bit(b[2] | b[3], top)
        if not known_a or not known_b:
            return None
        if bit(a[3], top) != bit(b[3], top):
            return int((predicate[1] == "l") == bool(bit(a[3], top)))
    if predicate[1:] == "lt":
        return slow_less(a, b)
    if predicate[1:] == "gt":
        return slow_less(b, a)
    told = slow_less(b, a) if predicate[1:] == "le" else slow_less(a, b)
    return None if told is None else 1 - told


def slow_refine(predicate, kind, a, b):
    """Refine two ranges as [6.5] says."""
    if predicate in ("ugt", "uge", "sgt", "sge"):
        told = slow_refine({"ugt": "ult", "uge": "ule", "sgt": "slt", "sge": "sle"}[predicate], kind, b, a)
        return told and (told[1], told[0])
    top = WIDTHS[kind] - 1
    if predicate[0] == "s":
        predicate = "u" + predicate[1:] if bit(a[2], top) and bit(b[2], top) else "no change"
    new_a, new_b = list(a), list(b)
    if predicate == "ult":
        if b[1] == 0 or a[0] == TOPS[kind]:
            return None
        new_a[1], new_b[0] = min(a[1], b[1] - 1), max(b[0], a[0] + 1)
    elif predicate == "ule":
        new_a[1], new_b[0] = min(a[1], b[1]), max(b[0], a[0])
    elif predicate == "eq":
        new_a = new_b = [max(a[0], b[0]), min(a[1], b[1]), a[2] | b[2], a[3] | b[3]]
    elif predicate == "ne":
        for new, old, other in ((new_a, a, b), (new_b, b, a)):
            if other[0] == other[1]:
                new[0] = old[0] + 1 if old[0] == other[0] else old[0]
                new[1] = old[1] - 1 if old[1] == other[0] else old[1]
    told = slow_normal(kind, tuple(new_a)), slow_normal(kind, tuple(new_b))
    return None if None in told else told


class CompareTest(unittest.TestCase):

    def test_decide(self):
        rnd = random.Random(7)
        for _ in range(3000):
            kind, predicate = rnd.choice(INTEGERS), rnd.choice(PREDICATES)
            a, b = some_range(rnd, kind), some_range(rnd, kind)
            told = decide(predicate, kind, a, b)
            self.assertEqual(told, slow_decide(predicate, kind, a, b), (predicate, kind, a, b))
            if kind in SMALL and told is not None:
                for x in values_of(kind, a)[:40]:
                    for y in values_of(kind, b)[-40:]:
                        self.assertEqual(compare(predicate, WIDTHS[kind], x, y), told)

    def test_decide_at_edges(self):
        low, high = (0, 127, 128, 0), (128, 255, 0, 128)
        self.assertEqual([decide(p, "i8", low, high) for p in PREDICATES], [0, 1, 1, 1, 0, 0, 0, 0, 1, 1])
        self.assertEqual([decide(p, "i8", full("i8"), high) for p in PREDICATES], [None] * 10)
        same = single("i8", 200)
        self.assertEqual([decide(p, "i8", same, same) for p in PREDICATES], [1, 0, 0, 1, 0, 1, 0, 1, 0, 1])
        self.assertEqual(decide("eq", "i8", (0, 254, 1, 0), (1, 255, 0, 1)), 0)
        self.assertEqual(decide("ult", "i8", (3, 9, 0, 0), (9, 12, 0, 0)), None)
        self.assertEqual(decide("ult", "i8", (9, 12, 0, 0), (3, 9, 0, 0)), 0)
        self.assertEqual(decide("ule", "i8", (3, 9, 0, 0), (9, 12, 0, 0)), 1)

    def test_refine(self):
        rnd = random.Random(8)
        for _ in range(3000):
            kind, predicate = rnd.choice(INTEGERS), rnd.choice(PREDICATES)
            a, b = some_range(rnd, kind), some_range(rnd, kind)
            if rnd.random() < 0.2:
                b = single(kind, rnd.choice((a[0], a[1])))
            told = refine(predicate, kind, a, b)
            self.assertEqual(told, slow_refine(predicate, kind, a, b), (predicate, kind, a, b))
            if kind in SMALL:
                for x in values_of(kind, a)[:30]:
                    for y in values_of(kind, b)[-30:]:
                        if compare(predicate, WIDTHS[kind], x, y):
                            self.assertTrue(told is not None and holds(told[0], x) and holds(told[1], y))

    def test_refine_at_edges(self):
        all8 = full("i8")
        self.assertIsNone(refine("ult", "i8", all8, single("i8", 0)))
        self.assertIsNone(refine("ult", "i8", single("i8", 255), all8))
        self.assertIsNone(refine("ugt", "i8", single("i8", 0), all8))
        self.assertEqual(refine("ult", "i8", all8, single("i8", 10)), ((0, 9, 240, 0), single("i8", 10)))
        self.assertEqual(refine("uge", "i8", all8, single("i8", 10)), ((10, 255, 0, 0), single("i8", 10)))
        self.assertEqual(refine("ne", "i8", all8, single("i8", 255)), ((0, 254, 0, 0), single("i8", 255)))
        self.assertEqual(refine("ne", "i8", single("i8", 0), all8), (single("i8", 0), (1, 255, 0, 0)))
        self.assertIsNone(refine("ne", "i8", single("i8", 7), single("i8", 7)))
        self.assertEqual(refine("ne", "i8", (3, 5, 0, 0), single("i8", 4)), (normal("i8", (3, 5, 0, 0)), single("i8", 4)))
        self.assertEqual(refine("eq", "i8", (3, 9, 0, 0), (5, 20, 0, 0)), (normal("i8", (5, 9, 0, 0)),) * 2)
        self.assertIsNone(refine("eq", "i8", (3, 4, 0, 0), (5, 20, 0, 0)))
        self.assertEqual(refine("slt", "i8", all8, single("i8", 5)), (all8, single("i8", 5)))
        self.assertEqual(refine("slt", "i8", (0, 127, 128, 0), single("i8", 5)), (normal("i8", (0, 4, 0, 0)), single("i8", 5)))
        self.assertIsNone(refine("slt", "i8", (9, 8, 0, 0), all8))
        self.assertIsNone(refine("ule", "i8", all8, (9, 8, 0, 0)))


if __name__ == "__main__":
    unittest.main()
