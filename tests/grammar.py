"""The grammar of the text of a module, as an automaton that is independent of the parser.

A state is a set of places in the grammar; a token is accepted if a place
takes it. This tells the first wrong token of a text without reading a module.
"""

DIGITS = "0123456789"
WORD = "abcdefghijklmnopqrstuvwxyz_" + DIGITS
BUILTINS = ("get", "put", "exit", "malloc", "free")
INTEGERS = {"i1": 1, "i8": 8, "i16": 16, "i32": 32, "i64": 64}
KINDS = tuple(INTEGERS) + ("ptr",)


def tokens_of(text):
    """Return the pairs (token, at) of a text."""
    found, at = [], 0
    while at < len(text):
        if text[at] in " \n":
            at += 1
            continue
        behind = at + 1
        while text[at] in WORD and behind < len(text) and text[behind] in WORD:
            behind += 1
        found.append((text[at:behind], at))
        at = behind
    return found


class Grammar:
    """An automaton that is built from its parts: each part is a pair (first place, last place)."""

    def __init__(self):
        self.free = []
        self.taking = []

    def place(self):
        self.free.append([])
        self.taking.append([])
        return len(self.free) - 1

    def token(self, test):
        first, last = self.place(), self.place()
        self.taking[first].append((test, last))
        return first, last

    def words(self, *words):
        return self.token(lambda token: token in words)

    def number(self, low, high):
        def test(token):
            if any(sign not in DIGITS for sign in token) or len(token) > 20 or (token[0] == "0" and token != "0"):
                return False
            return low <= int(token) <= high
        return self.token(test)

    def row(self, *parts):
        first = last = self.place()
        for begin, end in parts:
            self.free[last].append(begin)
            last = end
        return first, last

    def choice(self, *parts):
        first, last = self.place(), self.place()
        for begin, end in parts:
            self.free[first].append(begin)
            self.free[end].append(last)
        return first, last

    def maybe(self, part):
        return self.choice(part, self.row())

    def often(self, part):
        first = self.place()
        begin, end = part
        self.free[first].append(begin)
        self.free[end].append(first)
        last = self.place()
        self.free[first].append(last)
        return first, last

    def listed(self, make):
        return self.maybe(self.row(make(), self.often(self.row(self.words(","), make()))))

    def closure(self, places):
        found, waiting = set(places), list(places)
        while waiting:
            for other in self.free[waiting.pop()]:
                if other not in found:
                    found.add(other)
                    waiting.append(other)
        return found

    def wrong_at(self, part, text):
        """Return the index at which a text is wrong, or -1 if it is not."""
        first, last = part
        places = self.closure([first])
        for token, at in tokens_of(text):
            places = self.closure([then for place in places for test, then in self.taking[place] if test(token)])
            if not places:
                return at
        return -1 if last in places else len(text)


def is_global_name(token):
    return token[0] in "abcdefghijklmnopqrstuvwxyz" and len(token) <= 20 and token not in BUILTINS


class ModuleGrammar(Grammar):
    """The grammar of [2.9] to [2.11]."""

    def __init__(self):
        super().__init__()
        self.start = self.module()

    def find_wrong(self, text):
        return self.wrong_at(self.start, text)

    def name(self):
        return self.row(self.words("$"), self.number(0, 10 ** 9 - 1))

    def operand(self):
        parts = [self.words("null"), self.name(), self.row(self.words("@"), self.token(is_global_name))]
        for kind, w in INTEGERS.items():
            parts.append(self.row(self.words(kind), self.number(0, 2 ** w - 1)))
        return self.choice(*parts)

    def scale(self):
        return self.choice(self.row(self.words("-"), self.number(1, 2 ** 31)), self.number(0, 2 ** 31 - 1))

    def edge(self):
        return self.row(self.number(0, 10 ** 9 - 1), self.words("("), self.listed(self.operand), self.words(")"))

    def action(self):
        comma, operand, words = self.words, self.operand, self.words
        two = lambda: self.row(operand(), comma(","), operand())
        integer = lambda: words(*INTEGERS)
        index = lambda rest: self.maybe(self.row(words(","), operand(), words("*"), self.scale(), rest))
        return self.choice(
            self.row(words("add", "sub", "mul", "and", "or", "xor", "shl", "lshr", "ashr", "udiv", "sdiv", "urem", "srem"),
                     integer(), two()),
            self.row(words("trunc", "zext", "sext"), integer(), operand()),
            self.row(words("icmp"), words("eq", "ne", "ult", "ule", "ugt", "uge", "slt", "sle", "sgt", "sge"), words(*KINDS), two()),
            self.row(words("select"), words(*KINDS), operand(), words(","), two()),
            self.row(words("alloca"), self.number(1, 4096)),
            self.row(words("gep"), operand(), words(","), self.scale(), index(index(index(index(self.row()))))),
            self.row(words("load"), words(*KINDS), operand()),
            self.row(words("store"), words(*KINDS), two()),
            self.row(words("kill"), operand()),
            self.row(words("call"), words(*KINDS, "void"), self.token(lambda token: token in BUILTINS or is_global_name(token)),
                     words("("), self.listed(operand), words(")")),
        )

    def end(self):
        words = self.words
        case = self.row(self.number(0, 2 ** 64 - 1), words(":"), self.edge(), words(","))
        return self.choice(
            self.row(words("br"), self.edge()),
            self.row(words("condbr"), self.operand(), words(","), self.edge(), words(","), self.edge()),
            self.row(words("switch"), self.operand(), words(","), self.often(case), words("else"), self.edge()),
            self.row(words("ret"), self.maybe(self.operand())),
            self.row(words("stop"), self.place_mark()),
        )

    def place_mark(self):
        return self.row(self.words("!"), self.number(0, 10 ** 9 - 1))

    def block(self):
        words = self.words
        param = lambda: self.row(self.name(), words(*KINDS))
        instruction = self.row(self.maybe(self.row(self.name(), words("="))), self.action(), self.maybe(self.place_mark()))
        return self.row(self.number(0, 10 ** 9 - 1), words("("), self.listed(param), words(")"), words(":"),
                        self.often(instruction), self.end())

    def module(self):
        words = self.words
        value = lambda: self.number(0, 255)
        record = self.row(words("global", "constant"), self.token(is_global_name), value(), self.often(value()))
        function = self.row(words("internal", "export"), self.token(is_global_name), words(*KINDS, "void"), words("{"),
                            self.block(), self.often(self.block()), words("}"))
        return self.row(self.often(record), self.often(function))
