"""One step of the right shape for each word, and plain values of every kind."""

VALUES = (((0, 1),), (3, 4), ((0, (0, 9, 240, 0)), (1, ()), (2, (("at", 3), ("global", "g"), ("outside",)))))
EFFECTS = (("f", ("frees", "io")), ("main", ()))
MEMORY = ((1, ((("global", "g"), "i8", ("int", "i8", 3)), (("name", 3), "ptr", ("null",)))), (4, ((("name", 2), "i1", ("name", 7)),)))
FACTS = (VALUES, EFFECTS, MEMORY)
EQUATIONS = ((0, 4), (1, 2, 9))
LINEAR = ((3, 1, 2, 5), (4, 2, 0, 0))
DEMAND = ((0, 255), (3, 0))
ADD = (9, "add", "i8", (("name", 1), ("int", "i8", 255)), (), -1)
LOAD = (9, "load", "ptr", (("null",),), (), 5)

GOOD = {
    "prune": ("f",), "fold_end": ("f", 1), "drop_case": ("f", 1, 0), "as_condbr": ("f", 1, 9), "swap": ("f", 1), "join": ("f", 1),
    "cut": ("f", 1, 2, 3), "skip": ("f", 1, 0), "gather": ("f", 7, (8, 9), ((0, 1), (2, 0))), "copy": ("f", 1, 7, (8, 9), ((0, 1),)),
    "copy_region": ("f", 1, (1, 2), (7, 8), (10, 11), ((0, 0),)), "twins": ("f", ((1, 2), (3, 4)), 0, 1, 2), "add_param": ("f", 1, 9, "i8", (("name", 1), ("int", "i8", 0))),
    "same_param": ("f", 1, 0, ("global", "g")), "use_params": ("f", ((1, 0), (2, 1))), "fork": ("f", 1, ("int", "i1", 1)), "edge_value": ("f", 1, 0),
    "rename": ("f", ((0, 5), (1, 6)), ((0, 7), (1, 9))), "insert": ("f", 1, 0, ADD), "drop_names": ("f", (1, 2)), "delete_call": ("f", EFFECTS, 1, 0),
    "delete_load": ("f", FACTS, ((0, 1),)), "same": ("f", 1, 2, 3, 4), "prefer": ("f", 1, 2), "move": ("f", 1, 2, 3, 4), "rule": ("f", 1, 2, 3, ()),
    "ranged_rule": ("f", VALUES, 1, 2, 101, ()), "ranges": ("f", VALUES, (1, 2)), "demanded": ("f", VALUES, DEMAND, 1, 2), "undemanded": ("f", VALUES, DEMAND, (1, 2)),
    "equal": ("f", EQUATIONS, ((1, 2), (4, 0))), "linear": ("f", VALUES, LINEAR, 1, 2, ("name", 3)), "forward": ("f", FACTS, ((0, 1), (0, 2))), "same_store": ("f", FACTS, ((0, 1),)),
    "insert_load": ("f", FACTS, 1, 2, LOAD), "dead_store": ("f", FACTS, 1, 2, 3), "unread_store": ("f", FACTS, ((0, 1),)), "split_alloca": ("f", 1, 2, (4, 4), (8, 9)),
    "drop_kills": ("f", 1), "constant_load": ("f", 1, 2), "fix_global": ("g",), "drop_global": ("g",), "inline": ("f", 1, 2, 7, (8, 9), (10, 11)), "split_entry": ("f", 7, (8, 9)),
    "tail": ("f", 1), "drop_argument": ("f", 1), "same_argument": ("f", 1, ("null",)), "drop_result": ("f",), "drop_function": ("f",), "same_function": ("f", "g"),
}
STEPS = {word: (word,) + rest for word, rest in GOOD.items()}

# What the items of each word are: t a string, w an integer, n a name, k a kind, o an operand, O operands, i an instruction, N names, W integers,
# P pairs of integers, Q pairs of names, and the tables V E Q= equations L D F.
SHAPES = {
    "prune": "t", "fold_end": "tw", "drop_case": "tww", "as_condbr": "twn", "swap": "tw", "join": "tw", "cut": "twww", "skip": "tww", "gather": "twNP", "copy": "twwNP",
    "copy_region": "twWWNP", "twins": "tPwww", "add_param": "twnkO", "same_param": "twwo", "use_params": "tP", "fork": "two", "edge_value": "tww", "rename": "tPQ",
    "insert": "twwi", "drop_names": "tN", "delete_call": "tEww", "delete_load": "tFP", "same": "twwww", "prefer": "tnn", "move": "twwww", "rule": "twwwN",
    "ranged_rule": "tVwwwN", "ranges": "tVN", "demanded": "tVDww", "undemanded": "tVDN", "equal": "t=Q", "linear": "tVLwwo", "forward": "tFP", "same_store": "tFP",
    "insert_load": "tFwwi", "dead_store": "tFwww", "unread_store": "tFP", "split_alloca": "twwWN", "drop_kills": "tn", "constant_load": "tww", "fix_global": "t", "drop_global": "t",
    "inline": "twwwWN", "split_entry": "twN", "tail": "tw", "drop_argument": "tw", "same_argument": "two", "drop_result": "t", "drop_function": "t", "same_function": "tt",
}

WRONG = {
    "t": (1, None, True, (), ("f",), ["f"]),
    "w": ("1", None, True, False, (), (1,), [1]),
    "n": ("1", None, True, -1, (), (1,)),
    "k": ("void", "i9", "", 1, None, True, ("i8",), ()),
    "o": (1, None, "null", (), ("name",), ("name", -1), ("name", True), ("name", "1"), ("name", 1, 2), ("name", 10 ** 9), ["name", 1], ("int", "i8"), ("int", "i8", 256), ("int", "i8", -1),
          ("int", "ptr", 0), ("int", "i8", True), ("int", "i8", 1, 2), ("null", 0), ("global",), ("global", ""), ("global", "put"), ("global", "G"), ("global", "9"), ("global", "_a"),
          ("global", "a" * 21), ("global", 1), ("global", "a-b"), ("other", 1), (1, 1), ("void", "i8", 0)),
    "O": (1, None, "x", ("name", 1), (("name", -1),), [("name", 1)], ((),), (1,)),
    "N": (1, None, "x", [1], (True,), (-1,), ("1",), ((1,),), (None,)),
    "W": (1, None, "x", [1], (True,), ("1",), ((1,),), (None,)),
    "P": (1, None, "x", [(0, 1)], ((0,),), ((0, 1, 2),), ((0, True),), ((False, 1),), (("0", 1),), (0, 1), ([0, 1],), ((None, 1),)),
    "Q": (1, None, "x", [(0, 1)], ((0,),), ((0, 1, 2),), ((0, True),), ((-1, 1),), ((0, -1),), (("0", 1),), (0, 1), ([0, 1],)),
    "i": (1, None, (), ("add",), list(ADD), ADD[:5], ADD + (0,), (-1,) + ADD[1:], (10 ** 9,) + ADD[1:], (True,) + ADD[1:], ("9",) + ADD[1:], ADD[:5] + (3,), ADD[:5] + (None,), ADD[:5] + (True,),
          ADD[:4] + ((1,), -1), ADD[:4] + ([], -1), ADD[:3] + ((("name", 1),), (), -1), ADD[:3] + ([("name", 1), ("name", 2)], (), -1), ADD[:3] + ((("name", 1), 5), (), -1),
          (9, "add", "ptr") + ADD[3:], (9, "add", "void") + ADD[3:], (9, "add", None) + ADD[3:], (9, 1) + ADD[2:], (9, "udiv", "i8", ADD[3], (), 1), (9, "udiv", "i8", ADD[3], (), -1),
          (-1, "store", "i8", (("int", "i8", 1), ("name", 1)), (), 1), (9, "alloca", "ptr", (), (8,), -1), (-1, "kill", "void", (("name", 1),), (), -1), (9, "call", "i32", (), ("get",), 1),
          LOAD[:5] + (-1,), LOAD[:5] + (10 ** 9,), LOAD[:4] + ((0,), 5), LOAD[:3] + ((), (), 5), (9, "load", "void") + LOAD[3:], (9, "neg") + ADD[2:]),
    "V": (1, None, (), VALUES[:2], VALUES + ((),), list(VALUES), (1,) + VALUES[1:], (((1, 0), (0, 0)),) + VALUES[1:], (((0, 0), (0, 0)),) + VALUES[1:], (((0,),),) + VALUES[1:],
          (((0, True),),) + VALUES[1:], ([],) + VALUES[1:], VALUES[:1] + ((4, 3),) + VALUES[2:], VALUES[:1] + ((3, 3),) + VALUES[2:], VALUES[:1] + ((-1,),) + VALUES[2:],
          VALUES[:1] + (("3",),) + VALUES[2:], VALUES[:2] + (((1, ()), (0, ())),), VALUES[:2] + (((1, ()), (1, ())),), VALUES[:2] + (((-1, ()),),), VALUES[:2] + (((True, ()),),),
          VALUES[:2] + (((0, (0, 1, 2)),),), VALUES[:2] + (((0, (0, -1, 2, 3)),),), VALUES[:2] + (((0, (0, True, 2, 3)),),), VALUES[:2] + (((0, (0, 2 ** 64, 0, 0)),),),
          VALUES[:2] + (((0, (("outside",), ("at", 3))),),), VALUES[:2] + (((0, (("at", "3"),)),),), VALUES[:2] + (((0, (("at", -1),)),),), VALUES[:2] + (((0, (("global", 3),)),),),
          VALUES[:2] + (((0, (("other",),)),),), VALUES[:2] + (((0, (("outside", 1),)),),), VALUES[:2] + (((0, None),),), VALUES[:2] + (((0,),),), VALUES[:2] + (((0, (), 1),),)),
    "E": (1, None, [], (1,), (("f",),), (("f", (), 1),), ((1, ()),), (("f", ("io", "frees")),), (("f", ("io", "io")),), (("f", ("x",)),), (("f", (1,)),), (("f", ["io"]),), (["f", ()],)),
    "=": (1, None, [], (1,), ((),), ((1,),), ((2, 1),), ((1, 1),), ((1, 2), (0, 4)), ((1, 2), (2, 3)), ((1, True),), ((-1, 2),), ([1, 2],), ((1, "2"),)),
    "L": (1, None, [], (1,), ((1, 2, 3),), ((1, 2, 3, 4, 5),), ((3, 1, 2, -1),), ((3, 1, 2 ** 64, 0),), ((3, 3, 1, 0),), ((3, 1, 1, 0), (3, 2, 1, 0)), ((4, 1, 1, 0), (3, 1, 1, 0)),
          ((3, 1, 1, 0), (4, 3, 1, 0)), ((True, 1, 1, 0),), ((3, 1, True, 0),), ((-1, 1, 1, 0),), ((3, -1, 1, 0),), ([3, 1, 1, 0],)),
    "D": (1, None, [], (1,), ((1,),), ((1, 2, 3),), ((1, -1),), ((1, 2 ** 64),), ((1, True),), ((True, 1),), ((-1, 1),), ((2, 0), (1, 0)), ((1, 0), (1, 0)), (("1", 0),)),
    "F": (1, None, (), FACTS[:2], FACTS + ((),), list(FACTS), ((),) + FACTS[1:], (VALUES, (1,), MEMORY), (VALUES, EFFECTS, 1), (VALUES, EFFECTS, [MEMORY[0]]), (VALUES, EFFECTS, (MEMORY[1], MEMORY[0])),
          (VALUES, EFFECTS, (MEMORY[0], MEMORY[0])), (VALUES, EFFECTS, ((1, ()),)), (VALUES, EFFECTS, ((True, MEMORY[0][1]),)), (VALUES, EFFECTS, (("1", MEMORY[0][1]),)),
          (VALUES, EFFECTS, ((1, MEMORY[0][1][::-1]),)), (VALUES, EFFECTS, ((1, ((("null",), "i8"),)),)), (VALUES, EFFECTS, ((1, ((("null",), "i9", ("null",)),)),)),
          (VALUES, EFFECTS, ((1, ((("null",), "i8", 1),)),)), (VALUES, EFFECTS, ((1, ((1, "i8", ("null",)),)),))),
}

PLAIN = (None, True, False, 0, -1, 7, 10 ** 40, "", "f", "prune", "a\nb", (), (0,), ("prune",), (((),),), (None, ("x", (1, True))), ("prune", "f", 0))
