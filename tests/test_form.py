"""The form of the code: the rules of the language subset that a script can look at."""

import ast
import builtins
import io
import os
import re
import tokenize
import unittest

HERE = os.path.dirname(os.path.abspath(__file__))
PACKAGE = os.path.join(os.path.dirname(HERE), "burnish")

ALLOWED_BUILTINS = set("""
len range enumerate zip min max sum abs sorted reversed int str bool bytes list tuple dict set frozenset
isinstance ord repr any all divmod pow map iter next super Exception ValueError TypeError KeyError IndexError
LookupError ZeroDivisionError ArithmeticError OverflowError RuntimeError NotImplementedError AttributeError
StopIteration NotImplemented True False None property
""".split())

ALLOWED_METHODS = set("""
append clear copy count endswith extend find get index insert isalnum isalpha isdigit islower isspace isupper
items join keys ljust lower lstrip partition pop remove replace reverse rfind rjust rpartition rsplit rstrip
setdefault split splitlines startswith strip update upper values zfill bit_length add discard __init__ isascii
""".split())

BARRED_NAMES = set("""
register mro elements open input law version_info with_traceback add_note attrgetter breakpoint builtins compile
copyright credits delattr dir eval exec exit gc getattr globals hasattr help id importlib license locals
methodcaller os quit setattr type vars sys
""".split())

BARRED_WORDS = set("""
type typing typing_extensions enum Enum IntEnum StrEnum Flag IntFlag Generic Protocol ABC ABCMeta namedtuple
NamedTuple TypedDict TYPE_CHECKING abstractmethod
""".split())

BARRED_ATTRIBUTES = set("""
items keys values pop update append clear extend insert remove reverse setdefault sort args encode decode hex
fromhex format format_map mro
""".split())

LIBRARY = {"heapq": {"heappush", "heappop", "heapify"}}

BARRED_NODES = (
    ast.Global, ast.AsyncFunctionDef, ast.Await, ast.Try, ast.With, ast.Import, ast.Div, ast.NamedExpr, ast.Starred,
)


def package_files():
    """Return the names of the files of the package."""
    return sorted(name for name in os.listdir(PACKAGE) if name != "__pycache__")


def source_of(name):
    with open(os.path.join(PACKAGE, name), encoding="utf-8", newline="") as file:
        return file.read()


def tree_of(name):
    return ast.parse(source_of(name))


def code_tokens(name):
    """Return the tokens of a file but for comments and docstrings."""
    tree = tree_of(name)
    docs = set()
    for node in ast.walk(tree):
        if isinstance(node, (ast.Module, ast.ClassDef, ast.FunctionDef)) and ast.get_docstring(node) is not None:
            docs.add((node.body[0].lineno, node.body[0].col_offset))
    rows = tokenize.generate_tokens(io.StringIO(source_of(name)).readline)
    return [row for row in rows if row.type != tokenize.COMMENT and row.start not in docs]


def bound_names(function):
    """Return the parameters and local names of a function, without those of functions in it."""
    arguments = function.args
    names = [a.arg for a in arguments.posonlyargs + arguments.args + arguments.kwonlyargs]
    for node in ast.walk(function):
        if isinstance(node, ast.Name) and isinstance(node.ctx, ast.Store):
            names.append(node.id)
        if isinstance(node, ast.FunctionDef) and node is not function:
            names.append(node.name)
    return names


def module_level_names(tree):
    """Return the names bound at the module level, in order, each with its node."""
    found = []
    for node in tree.body:
        if isinstance(node, (ast.FunctionDef, ast.ClassDef)):
            found.append((node.name, node))
        elif isinstance(node, ast.Assign):
            found.append((node.targets[0].id, node))
        elif isinstance(node, ast.ImportFrom):
            found.extend((alias.asname or alias.name, node) for alias in node.names)
    return found


class FormTest(unittest.TestCase):

    def test_package_holds_plain_files_alone(self):
        for name in package_files():
            self.assertRegex(name, r"^[a-z_]+\.py$")

    def test_characters_and_lines(self):
        for name in package_files():
            text = source_of(name)
            self.assertTrue(all(" " <= sign <= "~" or sign == "\n" for sign in text), name)
            lines = text.split("\n")
            self.assertLessEqual(len(lines), 400, name)
            self.assertLessEqual(max(map(len, lines)), 120, name)

    def test_functions_are_small(self):
        for name in package_files():
            for node in ast.walk(tree_of(name)):
                if isinstance(node, ast.FunctionDef):
                    self.assertLessEqual(node.end_lineno - node.lineno + 1, 40, (name, node.name))

    def test_barred_statements_and_expressions(self):
        for name in package_files():
            for node in ast.walk(tree_of(name)):
                self.assertNotIsInstance(node, BARRED_NODES, (name, getattr(node, "lineno", 0)))
                if isinstance(node, ast.FunctionDef):
                    for decorator in node.decorator_list:
                        self.assertEqual(getattr(decorator, "id", ""), "property", name)
                if isinstance(node, ast.Compare):
                    self.look_at_is(name, node)

    def look_at_is(self, name, node):
        for op, right in zip(node.ops, node.comparators):
            if isinstance(op, (ast.Is, ast.IsNot)):
                self.assertIsInstance(right, ast.Constant, (name, node.lineno))
                self.assertIn(right.value, (None, True, False), (name, node.lineno))

    def test_module_level(self):
        for name in package_files():
            tree = tree_of(name)
            for k, node in enumerate(tree.body):
                if k == 0:
                    self.assertIsNotNone(ast.get_docstring(tree), name)
                    continue
                self.assertIsInstance(node, (ast.FunctionDef, ast.ClassDef, ast.Assign, ast.ImportFrom), name)
                if isinstance(node, ast.Assign):
                    self.assertEqual(len(node.targets), 1, name)
                    self.assertIsInstance(node.targets[0], ast.Name, name)
                    for part in ast.walk(node.value):
                        self.assertNotIsInstance(part, (ast.Call, ast.ListComp, ast.Lambda, ast.Set), name)
            names = [bound for bound, _ in module_level_names(tree)]
            self.assertEqual(len(names), len(set(names)), name)

    def test_imports(self):
        uses = {}
        for name in package_files():
            uses[name] = []
            for node in ast.walk(tree_of(name)):
                if not isinstance(node, ast.ImportFrom):
                    continue
                self.assertEqual(node.level, 0, name)
                if node.module in LIBRARY:
                    self.assertLessEqual({alias.name for alias in node.names}, LIBRARY[node.module], name)
                    self.assertTrue(all(alias.asname is None for alias in node.names), name)
                    continue
                self.assertTrue(node.module.startswith("burnish."), (name, node.module))
                source = node.module.split(".")[1] + ".py"
                uses[name].append(source)
                defined = {bound for bound, origin in module_level_names(tree_of(source))
                           if not isinstance(origin, ast.ImportFrom)}
                for alias in node.names:
                    self.assertIsNone(alias.asname, name)
                    self.assertIn(alias.name, defined, (name, source))
        self.look_for_cycles(uses)

    def look_for_cycles(self, uses):
        done = set()
        while len(done) < len(uses):
            ready = [name for name in uses if name not in done and all(other in done for other in uses[name])]
            self.assertTrue(ready, "files import from each other")
            done.update(ready)

    def test_imports_are_used(self):
        for name in package_files():
            tree = tree_of(name)
            used = {node.id for node in ast.walk(tree) if isinstance(node, ast.Name)}
            for bound, origin in module_level_names(tree):
                if isinstance(origin, ast.ImportFrom):
                    self.assertIn(bound, used, name)

    def test_names(self):
        for name in package_files():
            tree = tree_of(name)
            taken = {bound for bound, origin in module_level_names(tree)}
            for node in ast.walk(tree):
                if isinstance(node, ast.ClassDef):
                    self.assertRegex(node.name, r"^[A-Z]", name)
                    for part in ast.walk(node):
                        if isinstance(part, ast.FunctionDef):
                            self.assertNotIn("args", bound_names(part) + [part.name], (name, part.name))
                if isinstance(node, ast.FunctionDef):
                    self.look_at_function(name, node, taken)
            for bound, origin in module_level_names(tree):
                self.assertNotIn(bound, BARRED_NAMES, name)
                self.assertFalse(hasattr(builtins, bound), (name, bound))

    def look_at_function(self, name, node, taken):
        for bound in bound_names(node):
            where = (name, node.name, bound)
            self.assertNotIn(bound, taken, where)
            self.assertNotIn(bound, BARRED_NAMES, where)
            self.assertFalse(hasattr(builtins, bound), where)
            self.assertRegex(bound, r"^(_|_?[a-zA-Z][a-zA-Z0-9_]*)$", where)
        for part in ast.walk(node):
            if isinstance(part, ast.Name) and isinstance(part.ctx, ast.Load):
                self.assertNotEqual(part.id, "_", (name, node.name))

    def test_builtins_that_are_used(self):
        for name in package_files():
            for node in ast.walk(tree_of(name)):
                if isinstance(node, ast.Name) and hasattr(builtins, node.id):
                    self.assertIn(node.id, ALLOWED_BUILTINS, (name, node.lineno))

    def test_methods_and_attributes(self):
        methods, attributes, assigned = set(), set(), set()
        for name in package_files():
            for node in ast.walk(tree_of(name)):
                if isinstance(node, ast.ClassDef):
                    methods.update(part.name for part in node.body if isinstance(part, ast.FunctionDef))
                if isinstance(node, ast.Attribute):
                    attributes.add(node.attr)
                    if isinstance(node.ctx, ast.Store):
                        assigned.add(node.attr)
        self.assertEqual(attributes - methods - assigned - ALLOWED_METHODS, set())
        self.assertEqual(methods & assigned, set())
        self.assertEqual(assigned & BARRED_ATTRIBUTES, set())

    def test_methods_are_called_where_they_stand(self):
        methods = set(ALLOWED_METHODS)
        for name in package_files():
            for node in ast.walk(tree_of(name)):
                if isinstance(node, ast.ClassDef):
                    methods.update(part.name for part in node.body if isinstance(part, ast.FunctionDef) and not part.decorator_list)
        for name in package_files():
            tree = tree_of(name)
            called = [node.func for node in ast.walk(tree) if isinstance(node, ast.Call)]
            for node in ast.walk(tree):
                if isinstance(node, ast.Attribute) and isinstance(node.ctx, ast.Load) and node.attr in methods:
                    self.assertIn(node, called, (name, node.lineno))

    def test_words(self):
        for name in package_files():
            for token in code_tokens(name):
                if token.type in (tokenize.NAME, tokenize.STRING):
                    for word in re.findall(r"[A-Za-z_]+", token.string):
                        self.assertNotIn(word, BARRED_WORDS, (name, token.start))
                        self.assertFalse(word.startswith("_wall"), (name, token.start))

    def test_strings(self):
        for name in package_files():
            for token in tokenize.generate_tokens(io.StringIO(source_of(name)).readline):
                if token.type == tokenize.STRING:
                    self.assertNotIn("%", token.string, (name, token.start))
                    self.assertIsNone(re.search(r"\\[^nt\\\"']", token.string), (name, token.start))

    def test_loops_do_not_change_what_they_go_over(self):
        changing = {"append", "clear", "extend", "insert", "pop", "remove", "reverse", "setdefault", "update"}
        for name in package_files():
            for node in ast.walk(tree_of(name)):
                if not isinstance(node, ast.For):
                    continue
                over = {ast.unparse(part) for part in ast.walk(node.iter) if isinstance(part, (ast.Name, ast.Attribute))}
                for part in ast.walk(ast.Module(node.body, [])):
                    if isinstance(part, ast.Call) and isinstance(part.func, ast.Attribute):
                        if part.func.attr in changing:
                            self.assertNotIn(ast.unparse(part.func.value), over, (name, part.lineno))

    def test_sets_stay_in_their_place(self):
        for name in package_files():
            tree = tree_of(name)
            parents = {child: node for node in ast.walk(tree) for child in ast.iter_child_nodes(node)}
            for node in ast.walk(tree):
                self.assertNotIsInstance(node, (ast.Set, ast.SetComp), (name, getattr(node, "lineno", 0)))
                if isinstance(node, ast.Call) and getattr(node.func, "id", "") == "set":
                    outer = parents[node]
                    self.assertIsInstance(outer, ast.Call, (name, node.lineno))
                    self.assertIn(outer.func.id, ("sorted", "len"), (name, node.lineno))

    def test_what_is_iterated_at_once(self):
        takers = {"list", "tuple", "dict", "sorted", "sum", "any", "all", "enumerate", "zip", "min", "max"}
        for name in package_files():
            tree = tree_of(name)
            heads = [part.iter for part in ast.walk(tree) if isinstance(part, (ast.For, ast.comprehension))]
            for node in ast.walk(tree):
                if isinstance(node, ast.Call) and getattr(node.func, "id", "") in takers and node.args:
                    heads.append(node.args[0])
            for node in ast.walk(tree):
                if not isinstance(node, ast.Call):
                    continue
                called = getattr(node.func, "id", getattr(node.func, "attr", ""))
                if called in ("zip", "enumerate", "reversed", "range", "items", "keys", "values"):
                    self.assertIn(node, heads, (name, node.lineno))

    def test_generators_are_few(self):
        found = []
        for name in package_files():
            for node in ast.walk(tree_of(name)):
                if isinstance(node, ast.FunctionDef) and any(isinstance(part, ast.Yield) for part in ast.walk(node)):
                    found.append(node.name)
        self.assertEqual(found, ["candidates", "visits"])
        for name in package_files():
            tree = tree_of(name)
            heads = [node.iter.func for node in ast.walk(tree) if isinstance(node, ast.For) and isinstance(node.iter, ast.Call)]
            for node in ast.walk(tree):
                if getattr(node, "attr", getattr(node, "id", "")) in found:
                    self.assertIn(node, heads, name)

    def test_generator_expressions_are_not_needed(self):
        for name in package_files():
            for node in ast.walk(tree_of(name)):
                self.assertNotIsInstance(node, ast.GeneratorExp, (name, getattr(node, "lineno", 0)))


if __name__ == "__main__":
    unittest.main()
