"""Parsing: the module whose text is given."""

from burnish.errors import TextError
from burnish.records import builtin
from burnish.scan import scan

_INTEGERS = ("i1", "i8", "i16", "i32", "i64")

_KINDS = ("i1", "i8", "i16", "i32", "i64", "ptr")

_RESULTS = ("i1", "i8", "i16", "i32", "i64", "ptr", "void")

_PREDICATES = ("eq", "ne", "ult", "ule", "ugt", "uge", "slt", "sle", "sgt", "sge")

_BINARIES = ("add", "sub", "mul", "and", "or", "xor", "shl", "lshr", "ashr", "udiv", "sdiv", "urem", "srem")

_CASTS = ("trunc", "zext", "sext")

_ENDS = ("br", "condbr", "switch", "ret", "stop")

_TOPS = {"i1": 1, "i8": 255, "i16": 65535, "i32": 4294967295, "i64": 18446744073709551615}

_TOP_NUMBER = 999999999

_LETTERS = "abcdefghijklmnopqrstuvwxyz"

_DIGITS = "0123456789"


def _is_number(word):
    """Tell whether a token is a number: digits, no leading zero, at most 20."""
    if word == "" or len(word) > 20 or word[0] == "0" and word != "0":
        return False
    return all([sign in _DIGITS for sign in word])


def _is_global_name(word):
    """Tell whether a token may be the name of a global or function."""
    return word != "" and word[0] in _LETTERS and len(word) <= 20 and builtin(word) is None


class Reader:
    """The tokens of a text, read one by one; the last one is empty."""

    def __init__(self, text):
        self.tokens = scan(text)
        self.tokens.append(("", len(text)))
        self.position = 0

    def token(self):
        """Return the token to be read next, without reading it."""
        return self.tokens[self.position][0]

    def at_digit(self):
        """Tell whether the token to be read next begins with a digit."""
        word = self.token()
        return word != "" and word[0] in _DIGITS

    def refuse(self):
        """Raise the error for the token to be read next."""
        raise TextError(self.tokens[self.position][1])

    def accept(self, word):
        """Read the token if it is this one; tell whether it was."""
        if self.token() != word:
            return False
        self.position += 1
        return True

    def expect(self, word):
        """Read this token."""
        if not self.accept(word):
            self.refuse()

    def one_of(self, words):
        """Read one of these tokens and return it."""
        word = self.token()
        if word not in words:
            self.refuse()
        self.position += 1
        return word

    def number(self, low, high):
        """Read a number within the bounds and return it."""
        word = self.token()
        if not _is_number(word):
            self.refuse()
        value = int(word)
        if value < low or value > high:
            self.refuse()
        self.position += 1
        return value

    def global_name(self):
        """Read the name of a global or function and return it."""
        word = self.token()
        if not _is_global_name(word):
            self.refuse()
        self.position += 1
        return word


def parse_module(text):
    """Return the module of a text, or raise TextError at the first wrong token."""
    reader = Reader(text)
    records = []
    while reader.token() in ("global", "constant"):
        records.append(_read_global(reader))
    functions = []
    while reader.token() != "":
        functions.append(_read_function(reader))
    return (tuple(records), tuple(functions))


def _read_global(reader):
    """Read a global."""
    constant = reader.one_of(("global", "constant")) == "constant"
    name = reader.global_name()
    values = [reader.number(0, 255)]
    # Behind the last value that a global may have, a number is not its own.
    while len(values) < 4096 and reader.at_digit():
        values.append(reader.number(0, 255))
    return (name, constant, tuple(values))


def _read_function(reader):
    """Read a function."""
    internal = reader.one_of(("internal", "export")) == "internal"
    name = reader.global_name()
    kind = reader.one_of(_RESULTS)
    reader.expect("{")
    blocks = [_read_block(reader)]
    while not reader.accept("}"):
        blocks.append(_read_block(reader))
    return (name, kind, internal, tuple(blocks))


def _read_param(reader):
    """Read a parameter of a block."""
    reader.expect("$")
    name = reader.number(0, _TOP_NUMBER)
    return (name, reader.one_of(_KINDS))


def _read_listed(reader, read):
    """Read what stands in parentheses, with commas between the items."""
    reader.expect("(")
    if reader.accept(")"):
        return ()
    found = [read(reader)]
    while reader.accept(","):
        found.append(read(reader))
    reader.expect(")")
    return tuple(found)


def _read_block(reader):
    """Read a block."""
    label = reader.number(0, _TOP_NUMBER)
    params = _read_listed(reader, _read_param)
    reader.expect(":")
    body = []
    while reader.token() not in _ENDS:
        body.append(_read_instruction(reader))
    return (label, params, tuple(body), _read_end(reader))


def _read_operand(reader):
    """Read an operand."""
    if reader.accept("null"):
        return ("null",)
    if reader.accept("$"):
        return ("name", reader.number(0, _TOP_NUMBER))
    if reader.accept("@"):
        return ("global", reader.global_name())
    kind = reader.one_of(_INTEGERS)
    return ("int", kind, reader.number(0, _TOPS[kind]))


def _read_operands(reader, count):
    """Read this many operands, with commas between them."""
    found = [_read_operand(reader)]
    while len(found) < count:
        reader.expect(",")
        found.append(_read_operand(reader))
    return tuple(found)


def _read_instruction(reader):
    """Read an instruction, with its result and place where they stand."""
    name = -1
    if reader.accept("$"):
        name = reader.number(0, _TOP_NUMBER)
        reader.expect("=")
    op, kind, operands, data = _read_action(reader)
    place = -1
    if reader.accept("!"):
        place = reader.number(0, _TOP_NUMBER)
    return (name, op, kind, operands, data, place)


def _read_action(reader):
    """Read an instruction without its result and place."""
    op = reader.token()
    if op in _BINARIES or op in _CASTS:
        reader.expect(op)
        kind = reader.one_of(_INTEGERS)
        return op, kind, _read_operands(reader, 2 if op in _BINARIES else 1), ()
    if op not in _ACTIONS:
        reader.refuse()
    reader.expect(op)
    read = _ACTIONS[op]
    return read(reader)


def _read_icmp(reader):
    """Read an icmp behind its word."""
    data = (reader.one_of(_PREDICATES),)
    kind = reader.one_of(_KINDS)
    return "icmp", kind, _read_operands(reader, 2), data


def _read_select(reader):
    """Read a select behind its word."""
    kind = reader.one_of(_KINDS)
    return "select", kind, _read_operands(reader, 3), ()


def _read_alloca(reader):
    """Read an alloca behind its word."""
    return "alloca", "ptr", (), (reader.number(1, 4096),)


def _read_scale(reader):
    """Read an offset or a scale."""
    if reader.accept("-"):
        return -reader.number(1, 2147483648)
    return reader.number(0, 2147483647)


def _read_gep(reader):
    """Read a gep behind its word."""
    operands = [_read_operand(reader)]
    reader.expect(",")
    data = [_read_scale(reader)]
    while len(operands) < 5 and reader.accept(","):
        operands.append(_read_operand(reader))
        reader.expect("*")
        data.append(_read_scale(reader))
    return "gep", "ptr", tuple(operands), tuple(data)


def _read_load(reader):
    """Read a load behind its word."""
    kind = reader.one_of(_KINDS)
    return "load", kind, _read_operands(reader, 1), ()


def _read_store(reader):
    """Read a store behind its word."""
    kind = reader.one_of(_KINDS)
    return "store", kind, _read_operands(reader, 2), ()


def _read_kill(reader):
    """Read a kill behind its word."""
    return "kill", "void", _read_operands(reader, 1), ()


def _read_call(reader):
    """Read a call behind its word."""
    kind = reader.one_of(_RESULTS)
    callee = reader.token()
    if builtin(callee) is None:
        callee = reader.global_name()
    else:
        reader.expect(callee)
    return "call", kind, _read_listed(reader, _read_operand), (callee,)


_ACTIONS = {
    "icmp": _read_icmp, "select": _read_select, "alloca": _read_alloca, "gep": _read_gep,
    "load": _read_load, "store": _read_store, "kill": _read_kill, "call": _read_call,
}


def _read_edge(reader):
    """Read an edge."""
    label = reader.number(0, _TOP_NUMBER)
    return (label, _read_listed(reader, _read_operand))


def _read_end(reader):
    """Read the end of a block."""
    word = reader.one_of(_ENDS)
    if word == "br":
        return ("br", _read_edge(reader))
    if word == "condbr":
        condition = _read_operand(reader)
        reader.expect(",")
        first = _read_edge(reader)
        reader.expect(",")
        return ("condbr", condition, first, _read_edge(reader))
    if word == "switch":
        return _read_switch(reader)
    if word == "stop":
        reader.expect("!")
        return ("stop", reader.number(0, _TOP_NUMBER))
    if reader.token() in ("null", "$", "@") or reader.token() in _INTEGERS:
        return ("ret", _read_operand(reader))
    return ("ret", None)


def _read_switch(reader):
    """Read the end of a block behind the word switch."""
    value = _read_operand(reader)
    reader.expect(",")
    cases = []
    while not reader.accept("else"):
        number = reader.number(0, _TOPS["i64"])
        reader.expect(":")
        cases.append((number, _read_edge(reader)))
        reader.expect(",")
    return ("switch", value, tuple(cases), _read_edge(reader))
