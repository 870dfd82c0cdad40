"""Promises 8.6 and 8.7: the rules, row by row."""

import itertools
import random
import unittest

from burnish.faults import faults
from burnish.lattice import normal, single
from burnish.rules import ranged, rewrite
from burnish.show import show_instruction
from expressions import LAST, WIDTHS, Builder, callables

KINDS = tuple(WIDTHS)
SIGNED = ("slt", "sle", "sgt", "sge")
UNSIGNED = ("ult", "ule", "ugt", "uge")
ALL = ("eq", "ne") + UNSIGNED + SIGNED
SWAPPED = {"eq": "eq", "ne": "ne", "ult": "ugt", "ugt": "ult", "ule": "uge", "uge": "ule", "slt": "sgt", "sgt": "slt", "sle": "sge", "sge": "sle"}
OPPOSITE = {"eq": "ne", "ne": "eq", "ult": "uge", "uge": "ult", "ule": "ugt", "ugt": "ule", "slt": "sge", "sge": "slt", "sle": "sgt", "sgt": "sle"}


def tops(kind):
    w = WIDTHS[kind]
    return w, 2 ** w - 1, 2 ** (w - 1)


def constants(kind):
    """Return constants of a kind, those at its edges among them."""
    w, M, H = tops(kind)
    return sorted({0, 1, M, H, H - 1, M - 1, 5 & M, 0x5A & M, w & M, (w - 1) & M, 0xF0F0F0F0F0F0F0F0 & M})


def rows_of_arithmetic(K):
    """Yield (number, expression, result) of the rules for operations on integers, for a kind."""
    w, M, H = tops(K)
    every = constants(K)
    for op in ("add", "sub", "or", "xor", "shl", "lshr", "ashr"):
        yield 1, f"{op} x 0", "x"
    for op, c in (("mul", 1), ("udiv", 1), ("sdiv", 1), ("and", M)):
        yield 2, f"{op} x {c}", "x"
    yield 3, "and x x", "x"
    yield 3, "or x x", "x"
    for text in ("sub x x", "xor x x", "mul x 0", "and x 0", "urem x 1", "srem x 1", f"srem x {M}"):
        yield 4, text, "0"
    yield 5, f"or x {M}", str(M)
    for op in ("shl", "lshr", "ashr"):
        yield 6, f"{op} 0 x", "0"
    for op, c in itertools.product(("udiv", "sdiv", "urem", "srem"), every):
        if c:
            yield 6, f"{op} 0 {c}", "0"
    for op, c in itertools.product(("add", "mul", "and", "or", "xor"), every):
        yield 7, f"{op} {c} x", f"{op} x {c}"
    for c in every:
        if c:
            yield 8, f"sub x {c}", f"add x {-c}"
    yield 9, "add x x", "shl x 1"
    if w > 1:
        yield 10, f"mul x {M}", "sub 0 x"
        yield 10, f"sdiv x {M}", "sub 0 x"
    for k in range(1, w):
        yield 11, f"mul x {2 ** k}", f"shl x {k}"
        yield 12, f"udiv x {2 ** k}", f"lshr x {k}"
        yield 13, f"urem x {2 ** k}", f"and x {2 ** k - 1}"
    for c, d in itertools.product(every, every):
        for op, e in (("add", c + d), ("mul", c * d), ("and", c & d), ("or", c | d), ("xor", c ^ d)):
            yield 14, f"{op} [{op} x {c}] {d}", f"{op} x {e}"
        if c & d == 0:
            yield 32, f"and [or x {c}] {d}", f"and x {d}"
        if c | d == M:
            yield 33, f"or [and x {c}] {d}", f"or x {d}"
    for c, d in itertools.product(range(min(w, 9)), range(w)):
        for op in ("shl", "lshr"):
            yield 15, f"{op} [{op} x {c}] {d}", f"{op} x {c + d}" if c + d < w else "0"
        yield 16, f"ashr [ashr x {c}] {d}", f"ashr x {min(c + d, w - 1)}"
    for c in every + [w & M]:
        if c >= w:
            yield 17, f"shl x {c}", "0"
            yield 17, f"lshr x {c}", "0"
            if w > 1:
                yield 18, f"ashr x {c}", f"ashr x {w - 1}"
    for c in range(w):
        yield 19, f"lshr [shl x {c}] {c}", f"and x {M >> c}"
        yield 20, f"shl [lshr x {c}] {c}", f"and x {M - (2 ** c - 1)}"
        for d in every:
            yield 40, f"mul [shl x {c}] {d}", f"mul x {(d << c) & M}"


def rows_of_pairs(K):
    """Yield (number, expression, result) of the rules with names made by other operations, for a kind."""
    w, M, H = tops(K)
    for text in ("add [sub x y] y", "add y [sub x y]", "sub [add x y] y", "sub [add y x] y", "xor [xor x y] y", "xor [xor y x] y", "xor y [xor x y]", "xor y [xor y x]"):
        yield 21, text, "x"
    yield 22, "sub x [sub x y]", "y"
    yield 23, "sub [sub x y] x", "sub 0 y"
    yield 24, "sub 0 [sub x y]", "sub y x"
    yield 25, "add x [sub 0 y]", "sub x y"
    yield 25, "add [sub 0 y] x", "sub x y"
    yield 26, "sub x [sub 0 y]", "add x y"
    yield 27, f"sub {M} x", f"xor x {M}"
    yield 28, f"add [xor x {M}] 1", "sub 0 x"
    for op in ("add", "or", "xor"):
        yield 29, f"{op} x [xor x {M}]", str(M)
        yield 29, f"{op} [xor x {M}] x", str(M)
    yield 30, f"and x [xor x {M}]", "0"
    yield 30, f"and [xor x {M}] x", "0"
    for outer, inner in (("and", "or"), ("or", "and")):
        for text in (f"{outer} x [{inner} x y]", f"{outer} x [{inner} y x]", f"{outer} [{inner} x y] x", f"{outer} [{inner} y x] x"):
            yield 31, text, "x"
    for number, op, first, second, result, both in ((34, "add", "and", "or", "add", True), (35, "add", "and", "xor", "or", True), (36, "sub", "or", "and", "xor", False), (37, "sub", "or", "xor", "and", False),
                                                    (38, "xor", "and", "or", "xor", True), (39, "or", "and", "xor", "or", True)):
        for inner in ("x y", "y x"):
            yield number, f"{op} [{first} x y] [{second} {inner}]", f"{result} x y"
            if both:
                yield number, f"{op} [{second} {inner}] [{first} x y]", f"{result} x y"
    yield 68, f"add x {H}", f"xor x {H}"
    yield 68, f"sub x {H}", f"xor x {H}"
    for c, d in itertools.product(constants(K), range(min(w, 20))):
        if c >> d == 0:
            yield 69, f"lshr [and x {c}] {d}", "0"
    yield 70, "mul [sub 0 x] [sub 0 y]", "mul x y"


def rows_of_comparisons(K):
    """Yield (number, expression, result) of the rules for icmp and select, for a kind of the operands."""
    w, M, H = tops(K)
    for p in ALL:
        yield 41, f"icmp:{p}:{K} x x", "1" if p in ("eq", "ule", "uge", "sle", "sge") else "0"
        for c in constants(K):
            yield 42, f"icmp:{p}:{K} {c} x", f"icmp:{SWAPPED[p]}:{K} x {c}"
        yield 66, f"xor [icmp:{p}:{K} x y] 1", f"icmp:{OPPOSITE[p]}:{K} x y"
    for p, c in (("ult", 0), ("ugt", M), ("slt", H), ("sgt", H - 1)):
        yield 43, f"icmp:{p}:{K} x {c}", "0"
        yield 44, f"icmp:{OPPOSITE[p]}:{K} x {c}", "1"
    for c in constants(K):
        if c != M:
            yield 45, f"icmp:ule:{K} x {c}", f"icmp:ult:{K} x {c + 1}"
        if c != H - 1:
            yield 45, f"icmp:sle:{K} x {c}", f"icmp:slt:{K} x {(c + 1) & M}"
        if c != 0:
            yield 46, f"icmp:uge:{K} x {c}", f"icmp:ugt:{K} x {c - 1}"
        if c != H:
            yield 46, f"icmp:sge:{K} x {c}", f"icmp:sgt:{K} x {(c - 1) & M}"
    yield 47, f"icmp:ult:{K} x 1", f"icmp:eq:{K} x 0"
    yield 47, f"icmp:ugt:{K} x 0", f"icmp:ne:{K} x 0"
    yield 48, f"icmp:ugt:{K} x {M - 1}", f"icmp:eq:{K} x {M}"
    yield 48, f"icmp:ult:{K} x {M}", f"icmp:ne:{K} x {M}"
    for p in ("eq", "ne"):
        for c, d in itertools.product(constants(K), constants(K)):
            yield 49, f"icmp:{p}:{K} [add x {c}] {d}", f"icmp:{p}:{K} x {(d - c) & M}"
            yield 49, f"icmp:{p}:{K} [xor x {c}] {d}", f"icmp:{p}:{K} x {d ^ c}"
        yield 50, f"icmp:{p}:{K} [sub x y] 0", f"icmp:{p}:{K} x y"
        yield 50, f"icmp:{p}:{K} [xor x y] 0", f"icmp:{p}:{K} x y"
    if K == "i1":
        yield 51, "icmp:ne:i1 x 0", "x"
        yield 51, "icmp:eq:i1 x 1", "x"
        yield 52, "icmp:eq:i1 x 0", "xor x 1"
        yield 52, "icmp:ne:i1 x 1", "xor x 1"
    for old in KINDS:
        top = 2 ** WIDTHS[old] - 1
        if WIDTHS[old] < w:
            for c in sorted({0, 1, top - 1, top, top + 1, top + 2 if top + 2 <= M else M, M}):
                for p in ("eq", "ne", "ult", "ugt"):
                    if c <= top:
                        yield 53, f"icmp:{p}:{K} [zext:{old} x] {c}", f"icmp:{p}:{old} x {c}"
                    else:
                        yield 54, f"icmp:{p}:{K} [zext:{old} x] {c}", "0" if p in ("eq", "ugt") else "1"


def rows_of_selects(K):
    yield 55, "select 1 x y", "x"
    yield 55, "select 0 y x", "x"
    yield 55, "select b x x", "x"
    yield 55, "select b 1 1", "1"
    if K == "i1":
        yield 56, "select b 1 0", "b"
        yield 57, "select b 0 1", "xor b 1"
    yield 58, "select [xor b 1] x y", "select b y x"
    yield 59, f"select [icmp:eq:{K} x y] x y", "y"
    yield 59, f"select [icmp:ne:{K} x y] x y", "x"
    yield 60, f"select [icmp:eq:{K} x y] y x", "x"
    yield 60, f"select [icmp:ne:{K} x y] y x", "y"


def rows_of_casts():
    """Yield (kind, number, expression, result) of the rules for casts."""
    for a, b, c in itertools.product(KINDS, KINDS, KINDS):
        wa, wb, wc = WIDTHS[a], WIDTHS[b], WIDTHS[c]
        if wa > wb > wc:
            yield c, 61, f"trunc:{b} [trunc:{a} x]", f"trunc:{a} x"
        if wa < wb < wc:
            yield c, 61, f"zext:{b} [zext:{a} x]", f"zext:{a} x"
            yield c, 61, f"sext:{b} [sext:{a} x]", f"sext:{a} x"
            yield c, 62, f"sext:{b} [zext:{a} x]", f"zext:{a} x"
        if wa < wb > wc:
            for op in ("zext", "sext"):
                yield c, 63, f"trunc:{b} [{op}:{a} x]", "x" if a == c else f"trunc:{a} x" if wa > wc else f"{op}:{a} x"
    for a, b in itertools.product(KINDS, KINDS):
        if WIDTHS[a] < WIDTHS[b]:
            top = 2 ** WIDTHS[a] - 1
            for c in {top, 2 ** WIDTHS[b] - 1, top | 1 << WIDTHS[b] - 1}:
                yield b, 67, f"and [zext:{a} x] {c}", f"zext:{a} x"


# Rules that do not match, as a condition or the order of operands just fails, for kinds of more than one bit.
def misses(K):
    w, M, H = tops(K)
    for op in ("add", "sub", "or", "xor", "shl", "lshr", "ashr"):
        yield 1, f"{op} x 1"
        yield 1, f"{op} 0 x"
    for text in ("mul x 2", "udiv x 2", "sdiv x 2", f"and x {M - 1}", "mul 1 x", "udiv 1 x", f"and {M} x", f"udiv x {M}", "urem x 1", f"or x {M}"):
        yield 2, text
    for text in ("and x y", "or x y", "add x x", "xor x x", "mul x x"):
        yield 3, text
    for text in ("sub x y", "xor x y", "mul x 1", "mul 0 x", "and 0 x", "and x 1", "urem x 2", "srem x 2", f"srem x {M - 1}", f"urem x {M}", "and x x", "or x x", "udiv x 1"):
        yield 4, text
    for text in (f"or x {M - 1}", f"or {M} x", f"and x {M}", f"xor x {M}"):
        yield 5, text
    for text in ("shl 1 x", "lshr 1 x", "ashr 1 x", "shl x 0", "udiv 0 x", "sdiv 0 x", "urem 0 x", "srem 0 x", "udiv 0 0", "sdiv 0 0", "urem 0 0", "srem 0 0", "udiv 1 3", "sub 0 x", "mul 0 x"):
        yield 6, text
    for op in ("add", "mul", "and", "or", "xor"):
        yield 7, f"{op} x 3"
        yield 7, f"{op} 3 4"
        yield 7, f"{op} x y"
    for text in ("sub 3 x", "shl 3 x", "lshr 3 x", "ashr 3 x", "udiv 3 x"):
        yield 7, text
    for text in ("sub x 0", "sub x y", "add x 3", "sub 3 x"):
        yield 8, text
    for text in ("add x y", "sub x x", "mul x x", "or x x"):
        yield 9, text
    for text in (f"mul x {M - 1}", f"mul {M} x", f"sdiv x {M - 1}", f"udiv x {M}", f"srem x {M}", "mul x 1"):
        yield 10, text
    for number, op in ((11, "mul"), (12, "udiv"), (13, "urem")):
        for c in (0, 1, 3, M, H + 1, H - 1 if H > 2 else 3):
            yield number, f"{op} x {c}"
        yield number, f"{op} x y"
        yield number, f"{op} 4 x"
    yield 12, "sdiv x 4"
    yield 13, "srem x 4"
    for op in ("add", "mul", "and", "or", "xor"):
        yield 14, f"{op} [{op} x y] 3"
        yield 14, f"{op} [{op} 3 x] 3"
        yield 14, f"{op} 3 [{op} x 3]"
        yield 14, f"{op} [sub x 3] 3"
        yield 14, f"{op} [{op} x 3] y"
    yield 14, "sub [sub x 3] 3"
    yield 14, "shl [shl x 1] 1"
    for op in ("shl", "lshr"):
        for text in (f"{op} [{op} x {w}] 1", f"{op} [{op} x 1] {w}", f"{op} [{op} x y] 1", f"{op} [{op} x 1] y", f"{op} [ashr x 1] 1", f"{op} [{op} 1 x] 1", f"{op} x 1"):
            yield 15, text
    yield 15, "ashr [ashr x 1] 1"
    yield 15, "shl [lshr x 1] 1"
    for text in (f"ashr [ashr x {w}] 1", f"ashr [ashr x 1] {w}", "ashr [lshr x 1] 1", "lshr [ashr x 1] 1", "ashr [ashr x y] 1", "ashr [ashr x 1] y"):
        yield 16, text
    for text in (f"shl x {w - 1}", f"lshr x {w - 1}", f"ashr x {w}", f"shl {w} x", "shl x y"):
        yield 17, text
    for text in (f"ashr x {w - 1}", f"lshr x {w}", "ashr x y", f"ashr {w} x"):
        yield 18, text
    for text in ("lshr [shl x 1] 2", f"lshr [shl x {w}] {w}", "lshr [lshr x 1] 1", "ashr [shl x 1] 1", "lshr [shl x y] y", "shl [shl x 1] 1"):
        yield 19, text
    for text in ("shl [lshr x 1] 2", f"shl [lshr x {w}] {w}", "shl [ashr x 1] 1", "shl [lshr x y] y", "shl [shl x 1] 1"):
        yield 20, text
    for text in ("add [sub x y] x", "add x [sub x y]", "add [sub y x] y", "sub [add x y] z", "sub y [add x y]", "sub [sub x y] y", "xor [xor x y] z", "xor [or x y] y", "add [add x y] y", "sub [xor x y] y"):
        yield 21, text
    for number, texts in ((22, ("sub x [sub y x]", "sub x [add x y]", "sub [sub x y] x", "add x [sub x y]")), (23, ("sub [sub x y] y", "sub [sub y x] x", "sub [add x y] x", "sub x [sub x y]")),
                          (24, ("sub 1 [sub x y]", "sub 0 [add x y]", "sub [sub x y] 0", "sub z [sub x y]")), (25, ("add x [sub 1 y]", "add x [sub y 0]", "sub x [sub 0 y]", "add x [add 0 y]")),
                          (26, ("sub x [sub 1 y]", "sub [sub 0 y] x", "add x [sub 0 y]")), (27, (f"sub {M - 1} x", f"sub x {M}", "sub 0 x", f"add {M} x")),
                          (28, (f"add [xor x {M}] 2", f"add 1 [xor x {M}]", f"add [xor x {M - 1}] 1", f"add [xor {M} x] 1", f"sub [xor x {M}] 1")),
                          (29, (f"add y [xor x {M}]", f"add x [xor x {M - 1}]", f"or x [xor {M} x]", f"and x [xor x {M}]", f"sub x [xor x {M}]")),
                          (30, (f"and y [xor x {M}]", f"and x [xor x {M - 1}]", f"and x [xor {M} x]", f"or x [xor x {M}]")), (31, ("and x [or y z]", "or x [and y z]", "and x [and x y]", "or x [or x y]", "xor x [or x y]", "and x [xor x y]")),
                          (32, ("and [or x 3] 1", "and [or x 2] 6", "and [or 4 x] 3", "and 3 [or x 4]", "and [or x y] 3", "or [or x 4] 3", "and [xor x 4] 3")),
                          (33, (f"or [and x {M - 3}] 1", "or [and x 3] 4", f"or [and {M - 3} x] 3", f"or 3 [and x {M - 3}]", "or [and x y] 3", f"and [and x {M - 3}] 3"))):
        for text in texts:
            yield number, text
    for number, op, first, second in ((34, "add", "and", "or"), (35, "add", "and", "xor"), (36, "sub", "or", "and"), (37, "sub", "or", "xor"), (38, "xor", "and", "or"), (39, "or", "and", "xor")):
        yield number, f"{op} [{first} x y] [{second} x z]"
        yield number, f"{op} [{first} x y] [{second} z y]"
        yield number, f"{op} [{first} x y] [{first} x y]"
        yield number, f"mul [{first} x y] [{second} x y]"
        if op == "sub":
            yield number, f"{op} [{second} x y] [{first} x y]"
    for number, texts in ((40, (f"mul [shl x {w}] 3", "mul [shl x y] 3", "mul [lshr x 1] 3", "mul 3 [shl x 1]", "mul [shl x 1] y", "mul [shl 1 x] 3")), (68, (f"add x {H - 1}", f"add {H} x", f"sub {H} x", f"sub x {H + 1}", f"xor x {H}", f"mul x {H}")),
                          (69, ("lshr [and x 4] 2", f"lshr [and x 4] {w}", "lshr [and 4 x] 3", "ashr [and x 3] 2", "lshr [or x 3] 2", "lshr [and x y] 2", "lshr [and x 3] y", "lshr [and x 8] 3")),
                          (70, ("mul [sub 0 x] y", "mul x [sub 0 y]", "mul [sub 1 x] [sub 0 y]", "mul [sub x 0] [sub y 0]", "add [sub 0 x] [sub 0 y]", "mul [add 0 x] [sub 0 y]"))):
        for text in texts:
            yield number, text
    for p in ALL:
        yield 41, f"icmp:{p}:{K} x y"
        yield 42, f"icmp:{p}:{K} x 3"
        yield 42, f"icmp:{p}:{K} 3 4"
        yield 42, f"icmp:{p}:{K} x y"
    for p, c in (("ult", 0), ("ugt", M), ("slt", H), ("sgt", H - 1)):
        q = OPPOSITE[p]
        for number, right, wrong in ((43, p, q), (44, q, p)):
            yield number, f"icmp:{wrong}:{K} x {c}"
            yield number, f"icmp:{right}:{K} x {(c + 1) & M}"
            yield number, f"icmp:{right}:{K} x {(c - 1) & M}"
            yield number, f"icmp:{right}:{K} {c} x"
            yield number, f"icmp:{right}:{K} x y"
    for number, texts in ((45, (f"icmp:ule:{K} x {M}", f"icmp:sle:{K} x {H - 1}", f"icmp:ult:{K} x 3", f"icmp:ule:{K} x y", f"icmp:ule:{K} 3 x", f"icmp:uge:{K} x 3")),
                          (46, (f"icmp:uge:{K} x 0", f"icmp:sge:{K} x {H}", f"icmp:ugt:{K} x 3", f"icmp:uge:{K} x y", f"icmp:uge:{K} 3 x", f"icmp:ule:{K} x 3")),
                          (47, (f"icmp:ult:{K} x 2", f"icmp:ult:{K} x 0", f"icmp:ugt:{K} x 1", f"icmp:slt:{K} x 1", f"icmp:sgt:{K} x 0", f"icmp:ult:{K} 1 x", f"icmp:eq:{K} x 0")),
                          (48, (f"icmp:ugt:{K} x {M}", f"icmp:ugt:{K} x {M - 2}", f"icmp:ult:{K} x {M - 1}", f"icmp:slt:{K} x {M}", f"icmp:sgt:{K} x {M - 1}", f"icmp:ult:{K} {M} x")),
                          (49, (f"icmp:ult:{K} [add x 1] 3", f"icmp:eq:{K} [sub x 1] 3", f"icmp:eq:{K} [add 1 x] 3", f"icmp:eq:{K} [add x y] 3", f"icmp:eq:{K} [add x 1] y", f"icmp:eq:{K} 3 [add x 1]")),
                          (50, (f"icmp:ult:{K} [sub x y] 0", f"icmp:eq:{K} [sub x y] 1", f"icmp:eq:{K} [add x y] 0", f"icmp:eq:{K} 0 [sub x y]", f"icmp:ne:{K} [or x y] 0")),
                          (51, (f"icmp:ne:{K} x 0", f"icmp:eq:{K} x 1", "icmp:eq:i1 x 0", "icmp:ne:i1 x 1", "icmp:ult:i1 x 1", "icmp:ne:i1 0 x", "icmp:ne:i1 x y")),
                          (52, (f"icmp:eq:{K} x 0", f"icmp:ne:{K} x 1", "icmp:ne:i1 x 0", "icmp:eq:i1 x 1", "icmp:eq:i1 0 x", "icmp:eq:i1 x y")),
                          (53, (f"icmp:eq:{K} [zext:i1 x] 2", f"icmp:slt:{K} [zext:i1 x] 1", f"icmp:ule:{K} [zext:i1 x] 1", f"icmp:eq:{K} [sext:i1 x] 1", f"icmp:eq:{K} 1 [zext:i1 x]", f"icmp:eq:{K} [zext:i1 x] y")),
                          (54, (f"icmp:eq:{K} [zext:i1 x] 1", f"icmp:uge:{K} [zext:i1 x] 2", f"icmp:sgt:{K} [zext:i1 x] 2", f"icmp:eq:{K} [sext:i1 x] 2", f"icmp:eq:{K} 2 [zext:i1 x]", f"icmp:eq:{K} [zext:i1 x] y"))):
        for text in texts:
            yield number, text
    for number in (58, 59, 60):
        yield number, "select b x y"
        yield number, "select [and a b] x y"
    for number, texts in ((55, ("select b x y", "select b 1 0")), (56, ("select b 0 1", "select b 1 1", "select b 1 0", "select b x 0")), (57, ("select b 1 0", "select b 0 0", "select b 0 1", "select b 0 x")),
                          (58, ("select [xor b 0] x y", "select [xor 1 b] x y", "select [or b 1] x y", "select [xor b a] x y")),
                          (59, (f"select [icmp:ult:{K} x y] x y", f"select [icmp:eq:{K} x y] y x", f"select [icmp:eq:{K} x z] x y", f"select [icmp:eq:{K} y x] x y", f"select [icmp:ule:{K} x y] x y")),
                          (60, (f"select [icmp:ult:{K} x y] y x", f"select [icmp:eq:{K} x y] x y", f"select [icmp:eq:{K} x z] y x", f"select [icmp:ne:{K} y x] y x"))):
        for text in texts:
            yield number, text
    for number, texts in ((66, (f"xor [icmp:eq:{K} x y] 0", f"xor 1 [icmp:eq:{K} x y]", f"and [icmp:eq:{K} x y] 1")), (67, ("and [zext:i1 x] 2", "and [zext:i1 x] 0", "and [sext:i1 x] 1", "or [zext:i1 x] 1", "and 1 [zext:i1 x]", "and [zext:i1 x] y"))):
        for text in texts:
            yield number, text


class Looker(unittest.TestCase):

    def match(self, kind, number, before, after, *, is_bit=False):
        """Look what a rule makes of an expression, and that both are equal."""
        builder = Builder(kind)
        builder.is_bit = is_bit
        function, last = builder.function(before)
        result = rewrite(function, last, number, ())
        self.assertEqual(result, builder.due(after), (kind, number, before))
        self.assertIsNone(rewrite(function, last, number, (9,)))
        self.assertIsNone(ranged(function, ((), (), ()), last, number, ()))
        self.equal_values(kind, before, after, number)
        if result[0] == "body":
            show_instruction(result[1][0])
            changed = function[3][0][:2] + (function[3][0][2][:-1] + result[1], function[3][0][3])
            module = ((), (function[:3] + ((changed,),), ("main", "i32", False, ((0, (), (), ("ret", ("int", "i32", 0))),))))
            self.assertEqual(faults(module), [], (before, after))

    def equal_values(self, kind, before, after, number):
        if (kind, before, after) in self.seen:
            return
        self.seen.add((kind, before, after))
        (first, second), letters = callables((before, after), kind)
        for values in self.inputs(letters):
            if first(*values) is not None and first(*values) != second(*values):
                self.fail((kind, number, before, after, values))

    seen = set()

    def inputs(self, letters):
        """Return all values of i1 and i8, and many of the other kinds."""
        rows = []
        rnd = random.Random(str(letters))
        for _, kind in letters:
            if kind in ("i1", "i8"):
                rows.append(range(2 ** WIDTHS[kind]))
            else:
                rows.append(constants(kind) + [rnd.randrange(2 ** WIDTHS[kind]) for _ in range(12)])
        return itertools.product(*rows)

    def miss(self, kind, number, before):
        function, last = Builder(kind).function(before)
        self.assertIsNone(rewrite(function, last, number, ()), (kind, number, before))


class RuleTest(Looker):

    def test_arithmetic(self):
        for K in KINDS:
            for number, before, after in rows_of_arithmetic(K):
                self.match(K, number, before, after)

    def test_pairs(self):
        for K in KINDS:
            for number, before, after in rows_of_pairs(K):
                self.match(K, number, before, after)

    def test_comparisons(self):
        for K in KINDS:
            for number, before, after in rows_of_comparisons(K):
                self.match("i1" if number in (51, 52, 66) else K, number, before, after, is_bit=True)

    def test_selects(self):
        for K in KINDS:
            for number, before, after in rows_of_selects(K):
                self.match(K, number, before, after)

    def test_casts(self):
        for K, number, before, after in rows_of_casts():
            self.match(K, number, before, after)

    def test_each_number_is_looked_at(self):
        numbers = {number for number, _, _ in list(rows_of_arithmetic("i8")) + list(rows_of_pairs("i8")) + list(rows_of_comparisons("i8")) + list(rows_of_comparisons("i1")) + list(rows_of_selects("i1"))}
        numbers |= {number for _, number, _, _ in rows_of_casts()} | {64, 65}
        self.assertEqual(numbers, set(range(1, 71)))

    def test_what_just_does_not_match(self):
        for K in KINDS[1:]:
            for number, before in misses(K):
                kind = "i1" if number == 66 else K
                self.miss(kind, number, before)
        looked = {number for number, _ in misses("i8")}
        self.assertEqual(looked | {61, 62, 63, 64, 65}, set(range(1, 71)))

    def test_bits(self):
        # Where the width is 1, some conditions fail.
        for number, before in ((10, "mul x 1"), (10, "sdiv x 1"), (11, "mul x 1"), (12, "udiv x 1"), (13, "urem x 1"), (18, "ashr x 1"), (8, "sub x 0"),
                               (56, "select b x 0"), (56, "select b 1 x"), (56, "select b 0 1"), (57, "select b 0 x"), (57, "select b x 1"), (57, "select b 1 0"), (66, "xor x 1"), (66, "xor [and x y] 1")):
            self.miss("i1", number, before)
        for number, before, after in ((2, "mul x 1", "x"), (4, "srem x 1", "0"), (17, "shl x 1", "0"), (27, "sub 1 x", "xor x 1"), (68, "add x 1", "xor x 1"), (9, "add x x", "shl x 1"), (8, "sub x 1", "add x 1")):
            self.match("i1", number, before, after)

    def test_casts_that_do_not_match(self):
        for K, number, before in (("i8", 61, "trunc:i32 [zext:i16 x]"), ("i64", 61, "zext:i32 [sext:i8 x]"), ("i64", 61, "sext:i32 [zext:i8 x]"), ("i64", 61, "zext:i8 x"), ("i32", 61, "zext:i8 [trunc:i64 x]"),
                                  ("i64", 62, "zext:i32 [sext:i8 x]"), ("i64", 62, "sext:i32 [sext:i8 x]"), ("i64", 62, "sext:i8 x"), ("i64", 62, "zext:i32 [zext:i8 x]"), ("i8", 63, "trunc:i32 [trunc:i64 x]"), ("i8", 63, "trunc:i32 x"),
                                  ("i8", 63, "trunc:i32 [add x y]"), ("i64", 63, "zext:i32 [zext:i8 x]")):
            self.miss(K, number, before)

    def test_geps(self):
        cases = ((64, "gep:0 p", "p"), (65, "gep:5 [gep:3 p]", "gep:8 p"), (65, "gep:-5 [gep:3:8 p x]", "gep:-2:8 p x"), (65, "gep:0 [gep:3:8:-1 p x y]", "gep:3:8:-1 p x y"),
                 (65, f"gep:1 [gep:{2 ** 31 - 2} p]", f"gep:{2 ** 31 - 1} p"), (65, f"gep:-1 [gep:{1 - 2 ** 31} p]", f"gep:{-2 ** 31} p"), (65, "gep:0 [gep:0 p]", "gep:0 p"))
        for number, before, after in cases:
            builder = Builder("ptr")
            function, last = builder.function(before)
            self.assertEqual(rewrite(function, last, number, ()), builder.due(after), before)
        for number, before in ((64, "gep:1 p"), (64, "gep:0:1 p x"), (65, "gep:5:1 [gep:3 p] x"), (65, f"gep:1 [gep:{2 ** 31 - 1} p]"), (65, f"gep:-1 [gep:{-2 ** 31} p]"), (65, "gep:5 p"), (65, "gep:5 [select b p q]")):
            function, last = Builder("ptr").function(before)
            self.assertIsNone(rewrite(function, last, number, ()), before)

    def test_pointers(self):
        for number, before, after in ((41, "icmp:eq:ptr p p", "1"), (41, "icmp:ne:ptr p p", "0"), (66, "xor [icmp:eq:ptr p q] 1", "icmp:ne:ptr p q"), (66, "xor [icmp:ne:ptr p q] 1", "icmp:eq:ptr p q")):
            builder = Builder("i1")
            function, last = builder.function(before)
            self.assertEqual(rewrite(function, last, number, ()), builder.due(after), before)
        for number, before, after in ((55, "select 1 p q", "p"), (55, "select 0 p q", "q"), (55, "select b p p", "p"), (55, "select b null null", "null"), (58, "select [xor b 1] p q", "select b q p")):
            builder = Builder("ptr")
            function, last = builder.function(before)
            self.assertEqual(rewrite(function, last, number, ()), builder.due(after), before)
        # Rows of icmp are for integers, and so are 59 and 60.
        for kind, before in (("i1", "icmp:eq:ptr null p"), ("i1", "icmp:eq:ptr p null"), ("ptr", "select [icmp:eq:ptr p q] p q"), ("ptr", "select [icmp:eq:ptr p q] q p"), ("ptr", "select [icmp:ne:ptr p q] p q")):
            function, last = Builder(kind).function(before)
            for number in range(42, 61):
                self.assertIsNone(rewrite(function, last, number, ()), (number, before))

    def test_numbers_that_no_row_has(self):
        function, last = Builder("i8").function("add x 0")
        self.assertEqual(rewrite(function, last, 1, ()), ("operand", ("name", 0)))
        for number in (0, -1, 71, 100, 101, 108, 112, 113, 10 ** 30):
            self.assertIsNone(rewrite(function, last, number, ()))
        for names in ((1,), (100,), (1, 2)):
            self.assertIsNone(rewrite(function, last, 1, names))

    def test_other_instructions(self):
        rows = ((9, "alloca", "ptr", (), (8,), -1), (9, "load", "i8", (("null",),), (), 1), (-1, "store", "i8", (("int", "i8", 0), ("null",)), (), 1), (-1, "kill", "void", (("null",),), (), -1), (9, "call", "i32", (), ("get",), 1))
        for row in rows:
            function = ("f", "void", True, ((0, (), (row,), ("ret", None)),))
            for number in range(1, 113):
                self.assertIsNone(rewrite(function, row, number, ()))
                self.assertIsNone(ranged(function, ((), (), ()), row, number, ()))

    def test_names_that_are_no_instructions(self):
        # A param, and a definition in another block.
        function = ("f", "i8", True, ((0, ((0, "i8"),), ((1, "sub", "i8", (("name", 0), ("int", "i8", 3)), (), -1),), ("br", (1, (("name", 1),)))), (1, ((2, "i8"),), ((3, "add", "i8", (("name", 1), ("int", "i8", 3)), (), -1),), ("ret", ("name", 3)))))
        row = (9, "add", "i8", (("name", 1), ("int", "i8", 3)), (), -1)
        self.assertEqual(rewrite(function, row, 21, ()), ("operand", ("name", 0)))
        self.assertIsNone(rewrite(function, (9, "add", "i8", (("name", 2), ("int", "i8", 3)), (), -1), 21, ()))


class RangedTest(Looker):

    def ranged(self, kind, number, before, after, facts, *, is_bit=False):
        """Look what a rule makes of an expression where letters have ranges; after is None for no match."""
        builder = Builder(kind)
        builder.is_bit = is_bit
        function, last = builder.function(before)
        table = []
        for (letter, its), name in builder.params.items():
            if letter in facts:
                bounds = facts[letter] if len(facts[letter]) == 4 else facts[letter] + (0, 0)
                table.append((name, normal(its, bounds)))
        values = ((), (), tuple(sorted(table)))
        result = ranged(function, values, last, number, ())
        self.assertEqual(result, None if after is None else self.with_place(builder.due(after)), (kind, number, before, facts))
        self.assertIsNone(ranged(function, values, last, number, (7,)))
        if after is not None:
            self.assertIsNone(rewrite(function, last, number, ()))
            self.look_at_values(kind, before, after, {letter: dict(table)[name] for (letter, _), name in builder.params.items() if letter in facts})

    def with_place(self, due):
        return due

    def look_at_values(self, kind, before, after, facts):
        (first, second), letters = callables((before, after), kind)
        rows = []
        for letter, its in letters:
            lo, hi, zeros, ones = facts.get(letter, (0, 2 ** WIDTHS[its] - 1, 0, 0))
            values = range(lo, hi + 1) if hi - lo < 300 else sorted({lo, lo + 1, hi, hi - 1, (lo + hi) // 2} | {lo + (hi - lo) * k // 31 for k in range(32)})
            rows.append([value for value in values if not value & zeros and value & ones == ones])
        for values in itertools.product(*rows):
            self.assertEqual(first(*values), second(*values), (before, after, values))

    def test_rows(self):
        for K in KINDS[1:]:
            w, M, H = tops(K)
            low, high = (0, H - 1), (H, M)
            for number, before, after, facts in (
                    (101, "urem x 9", "x", {"x": (0, 8)}), (101, "urem x 9", None, {"x": (0, 9)}), (101, f"urem x {M}", "x", {"x": (3, M - 1)}), (101, "urem 8 x", None, {"x": (9, 9)}), (101, "urem x y", None, {"x": (0, 3), "y": (4, 4)}),
                    (102, "and x 7", "x", {"x": (0, 7)}), (102, "and x 7", None, {"x": (0, 8)}), (102, "and x 6", None, {"x": (0, 7)}), (102, "and x 6", "x", {"x": (0, 6, M - 6, 0)}), (102, "and 7 x", None, {"x": (0, 7)}),
                    (103, "or x 6", "x", {"x": (0, M, 0, 6)}), (103, "or x 6", None, {"x": (0, M, 0, 4)}), (103, "or x 6", "x", {"x": (0, M, 0, 14)}), (103, "or 6 x", None, {"x": (0, M, 0, 6)}),
                    (105, "ashr x y", "lshr x y", {"x": low}), (105, "ashr x 3", "lshr x 3", {"x": low}), (105, "ashr x y", None, {"x": (0, H)}), (105, "ashr x y", None, {"x": high}), (105, "ashr x y", None, {"y": low}),
                    (106, "sdiv x y", "udiv x y", {"x": low, "y": low}), (106, "srem x y", "urem x y", {"x": low, "y": low}), (106, "sdiv x 3", "udiv x 3", {"x": low}), (106, "sdiv x y", None, {"x": low}), (106, "srem x y", None, {"y": low}),
                    (106, "sdiv x y", None, {"x": high, "y": high}), (106, f"sdiv x {M}", None, {"x": low}),
                    (108, "add x y", "or x y", {"x": (0, M, 15, 0), "y": (0, 15)}), (108, "xor x y", "or x y", {"x": (0, M, 15, 0), "y": (0, 15)}), (108, "add x y", None, {"x": (0, M, 15, 0), "y": (0, 16)}), (108, "xor x 8", "or x 8", {"x": (0, 7)}),
                    (108, "add x 8", None, {"x": (0, 8)}), (108, "sub x y", None, {"x": (0, M, 15, 0), "y": (0, 15)}), (110, "udiv x 9", "0", {"x": (0, 8)}), (110, "udiv x 9", None, {"x": (0, 9)}), (110, "udiv x y", None, {"x": (0, 3), "y": (4, 4)}),
                    (110, "sdiv x 9", None, {"x": (0, 8)}), (111, "select b x y", "x", {"b": (1, 1)}), (111, "select b x y", "y", {"b": (0, 0)}), (111, "select b x y", None, {}), (111, "select b x y", None, {"x": (1, 1)})):
                self.ranged(K, number, before, after, facts)

    def test_signed_comparisons(self):
        for K in KINDS[1:]:
            w, M, H = tops(K)
            low, high = (0, H - 1), (H, M)
            for p, q in zip(SIGNED, UNSIGNED):
                before = f"icmp:{p}:{K} x y"
                for facts, fits in (({"x": low, "y": low}, True), ({"x": high, "y": high}, True), ({"x": low, "y": high}, False), ({"x": low}, False), ({"y": high}, False), ({"x": (0, H), "y": low}, False), ({"x": high, "y": (H - 1, M)}, False)):
                    self.ranged(K, 107, before, f"icmp:{q}:{K} x y" if fits else None, facts, is_bit=True)
                self.ranged(K, 107, f"icmp:{q}:{K} x y", None, {"x": low, "y": low}, is_bit=True)
            self.ranged(K, 107, f"icmp:eq:{K} x y", None, {"x": low, "y": low}, is_bit=True)

    def test_decided_comparisons(self):
        for K in KINDS[1:]:
            w, M, H = tops(K)
            for p, x, y, told in (("ult", (0, 3), (4, 9), 1), ("ult", (0, 4), (4, 9), None), ("ult", (9, 12), (4, 9), 0), ("uge", (9, 12), (4, 9), 1), ("ule", (0, 4), (4, 9), 1), ("ugt", (0, 4), (4, 9), 0), ("eq", (0, 3), (4, 9), 0), ("ne", (0, 3), (4, 9), 1),
                                  ("eq", (0, 4), (4, 9), None), ("eq", (4, 4), (4, 4), 1), ("ne", (4, 4), (4, 4), 0), ("eq", (0, M, 1, 0), (0, M, 0, 1), 0), ("slt", (H, M), (0, H - 1), 1), ("sge", (H, M), (0, H - 1), 0), ("sgt", (0, 4), (5, 9), 0),
                                  ("sle", (0, M), (5, 9), None)):
                self.ranged(K, 109, f"icmp:{p}:{K} x y", None if told is None else str(told), {"x": x, "y": y}, is_bit=True)
            self.ranged(K, 109, f"icmp:ult:{K} x 9", "1", {"x": (0, 8)}, is_bit=True)
            self.ranged(K, 109, f"icmp:ult:{K} x 9", None, {"x": (0, 9)}, is_bit=True)

    def test_casts(self):
        for old, K in itertools.combinations(KINDS, 2):
            w, M, H = tops(old)
            self.ranged(K, 104, f"sext:{old} x", f"zext:{old} x", {"x": (0, H - 1)})
            self.ranged(K, 104, f"sext:{old} x", None, {"x": (0, H)} if w > 1 else {})
            self.ranged(K, 104, f"sext:{old} x", None, {"x": (H, M)})
            self.ranged(K, 112, f"zext:{old} [trunc:{K} x]", "x", {"x": (0, M)})
            self.ranged(K, 112, f"zext:{old} [trunc:{K} x]", None, {"x": (0, M + 1)})
            self.ranged(K, 112, f"zext:{old} x", None, {"x": (0, 1)})
        self.ranged("i64", 112, "zext:i8 [trunc:i32 x]", None, {"x": (0, 7)})
        self.ranged("i32", 112, "sext:i8 [trunc:i32 x]", None, {"x": (0, 7)})
        self.ranged("i32", 112, "zext:i1 [icmp:eq:i32 x y]", None, {"x": (0, 1)})
        self.ranged("i32", 112, "zext:i8 [add x y]", None, {"x": (0, 1)})

    def test_bits(self):
        for number, before, after, facts in ((105, "ashr x y", "lshr x y", {"x": (0, 0)}), (105, "ashr x y", None, {}), (106, "sdiv x y", None, {"x": (0, 0)}), (108, "add x y", "or x y", {"x": (0, 0)}), (108, "xor x y", None, {}),
                                             (111, "select x y 0", "y", {"x": (1, 1)})):
            self.ranged("i1", number, before, after, facts)

    def test_facts_of_the_table_alone(self):
        # Constants have their ranges, and names without an entry the full one.
        self.ranged("i8", 109, "icmp:ult:i8 3 4", "1", {}, is_bit=True)
        self.ranged("i8", 109, "icmp:ult:i8 x 4", None, {}, is_bit=True)
        self.ranged("i8", 108, "add 3 4", "or 3 4", {})
        self.ranged("i8", 101, "urem 3 4", "3", {})

    def test_numbers_that_no_row_has(self):
        function, last = Builder("i8").function("urem x 9")
        values = ((), (), ((0, single("i8", 3)),))
        self.assertEqual(ranged(function, values, last, 101, ()), ("operand", ("name", 0)))
        for number in (0, -1, 1, 13, 70, 100, 102, 113, 10 ** 30):
            self.assertIsNone(ranged(function, values, last, number, ()))

    def test_pointers(self):
        function, last = Builder("i1").function("icmp:eq:ptr p p")
        for number in range(101, 113):
            self.assertIsNone(ranged(function, ((), (), ((0, (("global", "g"),)),)), last, number, ()))
        builder = Builder("ptr")
        function, last = builder.function("select b p q")
        self.assertEqual(ranged(function, ((), (), ((0, (1, 1, 0, 1)),)), last, 111, ()), ("operand", ("name", 1)))


class PlaceTest(unittest.TestCase):

    def test_divisions_keep_their_places(self):
        for op, new in (("sdiv", "udiv"), ("srem", "urem")):
            function, last = Builder("i8").function(f"{op} x y")
            low = (0, 127, 128, 0)
            self.assertEqual(ranged(function, ((), (), ((0, low), (1, low))), last, 106, ()), ("body", ((LAST, new, "i8", last[3], (), 5),)))

    def test_divisions_that_go_have_no_place(self):
        for op, number, new in (("udiv", 12, "lshr"), ("urem", 13, "and")):
            function, last = Builder("i8").function(f"{op} x 4")
            self.assertEqual(rewrite(function, last, number, ())[1][0][1::4], (new, -1))


if __name__ == "__main__":
    unittest.main()
