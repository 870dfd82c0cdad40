"""Promise 7.2: the shapes of steps, and what is an operand or an instruction."""

import random
import unittest

from burnish.forms import has_shape, is_instruction, is_operand
from goodsteps import ADD, GOOD, LOAD, PLAIN, SHAPES, STEPS, WRONG


class ShapeTest(unittest.TestCase):

    def test_each_word_has_its_shape(self):
        self.assertEqual(len(GOOD), 50)
        for word, step in STEPS.items():
            self.assertIs(has_shape(step), True, word)
            self.assertEqual(len(step) - 1, len(SHAPES[word]), word)

    def test_items_left_out_and_added(self):
        for word, step in STEPS.items():
            for k in range(len(step)):
                self.assertIs(has_shape(step[:k] + step[k + 1:]), False, (word, k))
            for more in (0, "f", (), None, step[-1]):
                self.assertIs(has_shape(step + (more,)), False, word)
            self.assertIs(has_shape(list(step)), False, word)

    def test_items_of_another_kind(self):
        for word, step in STEPS.items():
            for k, letter in enumerate(SHAPES[word], 1):
                for wrong in WRONG[letter]:
                    self.assertIs(has_shape(step[:k] + (wrong,) + step[k + 1:]), False, (word, k, wrong))

    def test_integers_may_be_negative_where_they_are_no_names(self):
        for word, step in STEPS.items():
            for k, letter in enumerate(SHAPES[word], 1):
                if letter == "w":
                    self.assertIs(has_shape(step[:k] + (-5,) + step[k + 1:]), True, (word, k))
                if letter == "P":
                    self.assertIs(has_shape(step[:k] + (((-1, -2),),) + step[k + 1:]), True, (word, k))
                if letter == "W":
                    self.assertIs(has_shape(step[:k] + ((-1, 4),) + step[k + 1:]), True, (word, k))

    def test_empty_rows_and_tables(self):
        empty = {"N": (), "W": (), "P": (), "Q": (), "O": (), "V": ((), (), ()), "E": (), "=": (), "L": (), "D": (), "F": (((), (), ()), (), ())}
        for word, step in STEPS.items():
            for k, letter in enumerate(SHAPES[word], 1):
                if letter in empty:
                    self.assertIs(has_shape(step[:k] + (empty[letter],) + step[k + 1:]), True, (word, k))

    def test_other_words_and_values(self):
        for value in PLAIN:
            self.assertIs(has_shape(value), False, value)
        for step in (("", "f"), ("Prune", "f"), ("prune ", "f"), (("prune",), "f"), (0, "f"), (True, "f"), (None, "f"), ("combine", "f"), ("br", "f")):
            self.assertIs(has_shape(step), False, step)

    def test_random_plain_values_give_an_answer(self):
        rnd = random.Random(7)

        def plain(depth):
            if depth and rnd.random() < 0.6:
                return tuple(plain(depth - 1) for _ in range(rnd.randrange(5)))
            return rnd.choice(PLAIN[:11] + ("name", "int", "i8", "null", "global", "outside", "at", 1, 2))

        def changed(value):
            if not isinstance(value, tuple) or not value or rnd.random() < 0.2:
                return plain(3)
            k = rnd.randrange(len(value))
            return value[:k] + (changed(value[k]),) + value[k + 1:]

        for _ in range(20000):
            step = STEPS[rnd.choice(sorted(STEPS))]
            self.assertIn(has_shape(changed(step)), (True, False))


class RecordTest(unittest.TestCase):

    def test_operands(self):
        for value in (("null",), ("name", 0), ("name", 10 ** 9 - 1), ("int", "i1", 1), ("int", "i8", 255), ("int", "i64", 2 ** 64 - 1), ("global", "a"), ("global", "x_9"),
                      ("global", "a" * 20), ("global", "i8"), ("global", "null")):
            self.assertIs(is_operand(value), True, value)
        for value in WRONG["o"] + (("global", "get"), ("global", "exit"), ("global", "malloc"), ("global", "free"), ("int", "i1", 2), ("int", ["i8"], 2), ("name", None)):
            self.assertIs(is_operand(value), False, value)

    def test_instructions(self):
        a, b = ("name", 1), ("int", "i8", 2)
        good = [ADD, LOAD]
        for op in ("add", "sub", "mul", "and", "or", "xor", "shl", "lshr", "ashr"):
            good.append((0, op, "i64", (a, b), (), -1))
            for count in (0, 1, 3):
                self.assertIs(is_instruction((0, op, "i64", (a,) * count, (), -1)), False)
        for predicate in ("eq", "ne", "ult", "ule", "ugt", "uge", "slt", "sle", "sgt", "sge"):
            good += [(0, "icmp", kind, (a, a), (predicate,), -1) for kind in ("i1", "i64", "ptr")]
        good += [(0, "select", kind, (a, a, a), (), -1) for kind in ("i1", "ptr")]
        good += [(0, op, "i32", (a,), (), -1) for op in ("trunc", "zext", "sext")]
        good += [(0, "gep", "ptr", (a,) * count, (2 ** 31 - 1,) + (-2 ** 31,) * (count - 1), -1) for count in range(1, 6)]
        good += [(10 ** 9 - 1, "load", kind, (a,), (), 10 ** 9 - 1) for kind in ("i1", "i8", "i16", "i32", "i64", "ptr")]
        for value in good:
            self.assertIs(is_instruction(value), True, value)
        wrong = [(0, "icmp", "i8", (a, a), data, -1) for data in (["eq"], "eq", (), ("eq", "eq"), ("lt",), (1,), ("",), (("eq",),), (None,))]
        wrong += [(0, "icmp", "void", (a, a), ("eq",), -1), (0, "icmp", "i8", (a,), ("eq",), -1), (0, "select", "i8", (a, a), (), -1), (0, "select", "void", (a, a, a), (), -1),
                  (0, "select", "i8", (a, a, a), (0,), -1), (0, "trunc", "ptr", (a,), (), -1), (0, "zext", "i8", (a, a), (), -1), (0, "zext", "i8", (), (), -1),
                  (0, "gep", "ptr", (), (), -1), (0, "gep", "ptr", (a,) * 6, (0,) * 6, -1), (0, "gep", "ptr", (a,), (), -1), (0, "gep", "ptr", (a,), (0, 1), -1), (0, "gep", "ptr", (a, a), (0,), -1),
                  (0, "gep", "ptr", (a,), (2 ** 31,), -1), (0, "gep", "ptr", (a,), (-2 ** 31 - 1,), -1), (0, "gep", "ptr", (a,), (True,), -1), (0, "gep", "i64", (a,), (0,), -1), (0, "gep", "ptr", (a,), ("0",), -1),
                  (0, "load", "i8", (a, a), (), 1), (0, "load", "i8", (a,), (), True), (0, "load", "i8", (a,), (), None)]
        for value in wrong + list(WRONG["i"]):
            self.assertIs(is_instruction(value), False, value)


if __name__ == "__main__":
    unittest.main()
