"""The package keeps to the plain subset of Python that it is written in."""

import ast
import builtins
import os
import re
import unittest

ROOT = os.path.dirname(os.path.dirname(os.path.abspath(__file__)))
PACKAGE = os.path.join(ROOT, "ruleshadows")

CALLED = {
    "len", "range", "enumerate", "zip", "min", "max", "sum", "abs", "sorted", "reversed", "int", "str", "bool",
    "list", "tuple", "dict", "set", "isinstance", "ord", "repr", "any", "all", "divmod",
}
METHODS = {
    "append", "clear", "copy", "count", "endswith", "extend", "find", "get", "index", "insert", "isalnum", "isalpha",
    "isdigit", "islower", "isspace", "isupper", "items", "join", "keys", "ljust", "lower", "lstrip", "partition", "pop",
    "remove", "replace", "reverse", "rfind", "rjust", "rpartition", "rsplit", "rstrip", "setdefault", "split",
    "splitlines", "startswith", "strip", "update", "upper", "values", "zfill", "bit_length",
}
BARRED_WORDS = (
    "type", "typing", "typing_extensions", "enum", "Enum", "IntEnum", "StrEnum", "Flag", "IntFlag", "Generic",
    "Protocol", "ABC", "ABCMeta", "namedtuple", "NamedTuple", "TypedDict", "TYPE_CHECKING", "abstractmethod",
    "register", "mro", "elements", "open", "input", "law", "version_info", "with_traceback", "add_note",
)
STATEMENTS = (
    ast.Assign, ast.AugAssign, ast.If, ast.While, ast.For, ast.Return, ast.Break, ast.Continue, ast.Pass, ast.Raise,
    ast.Assert, ast.Delete, ast.Expr, ast.FunctionDef, ast.ClassDef, ast.ImportFrom, ast.Try,
)
DUNDERS = ("__init__", "__eq__")
KEYWORDS = {"sorted": {"key", "reverse"}, "min": {"key", "default"}, "max": {"key", "default"},
            "sum": {"start"}, "enumerate": {"start"}, "zip": {"strict"}}
AT_ONCE = ("zip", "enumerate", "reversed", "range", "items", "keys", "values")
COMPREHENSIONS = (ast.ListComp, ast.DictComp, ast.SetComp, ast.GeneratorExp)


def files():
    return sorted(name for name in os.listdir(PACKAGE) if name != "__pycache__")


def text_of(name):
    with open(os.path.join(PACKAGE, name), encoding="utf-8", newline="") as file:
        return file.read()


def parsed():
    for name in files():
        tree = ast.parse(text_of(name))
        for node in ast.walk(tree):
            for child in ast.iter_child_nodes(node):
                child.above = node
        yield name, tree


def functions(tree):
    return [node for node in ast.walk(tree) if isinstance(node, ast.FunctionDef)]


def names_of(target):
    return [node.id for node in ast.walk(target) if isinstance(node, ast.Name)]


def assigned(function):
    """Parameters, and names that statements of the function assign (not those of comprehensions)."""
    found = {arg.arg for arg in function.args.args}
    for node in ast.walk(function):
        if isinstance(node, ast.Assign):
            for target in node.targets:
                if not isinstance(target, (ast.Subscript, ast.Attribute)):
                    found |= set(names_of(target))
        elif isinstance(node, ast.AugAssign) and isinstance(node.target, ast.Name):
            found.add(node.target.id)
        elif isinstance(node, ast.For):
            found |= set(names_of(node.target))
    return found


class Language(unittest.TestCase):
    def test_files(self):
        for name in files():
            self.assertRegex(name, r"^(__init__|[a-z][a-z0-9_]*)\.py$")
            self.assertNotIn(name[:-3], dir(builtins))
            text = text_of(name)
            self.assertTrue(all(character == "\n" or " " <= character <= "~" for character in text), name)
            lines = text.split("\n")
            self.assertLessEqual(len(lines), 399, name)
            for line in lines:
                self.assertLessEqual(len(line), 120, (name, line))
        self.assertLessEqual(len(files()), 100)

    def test_sizes_of_functions(self):
        for name, tree in parsed():
            for node in functions(tree):
                self.assertLessEqual(node.end_lineno - node.lineno + 1, 40, (name, node.name))
                self.assertEqual(node.decorator_list, [], (name, node.name))
                self.assertFalse(node.args.vararg or node.args.kwarg or node.args.kwonlyargs, (name, node.name))

    def test_statements(self):
        for name, tree in parsed():
            for node in ast.walk(tree):
                if isinstance(node, ast.stmt):
                    self.assertIsInstance(node, STATEMENTS, (name, node.lineno))
            for node in tree.body:
                self.assertIsInstance(node, (ast.Expr, ast.ImportFrom, ast.FunctionDef, ast.ClassDef, ast.Assign))
                if isinstance(node, ast.Assign):
                    ast.literal_eval(node.value)

    def test_own_errors_alone_are_caught(self):
        own = {node.name for node in ast.parse(text_of("errors.py")).body if isinstance(node, ast.ClassDef)}
        for name, tree in parsed():
            for node in ast.walk(tree):
                if isinstance(node, ast.Try):
                    self.assertEqual(node.finalbody + node.orelse, [], (name, node.lineno))
                    for handler in node.handlers:
                        self.assertIsInstance(handler.type, ast.Name, (name, node.lineno))
                        self.assertIn(handler.type.id, own, (name, node.lineno))
                        self.assertIsNone(handler.name, (name, node.lineno))
                if isinstance(node, ast.Raise):
                    self.assertIsInstance(node.exc, ast.Call, (name, node.lineno))
                    self.assertIn(node.exc.func.id, own, (name, node.lineno))

    def test_no_name_is_a_method_and_an_attribute(self):
        methods, attributes = set(), set()
        for name, tree in parsed():
            for node in ast.walk(tree):
                if isinstance(node, ast.ClassDef):
                    methods |= {part.name for part in node.body if isinstance(part, ast.FunctionDef)}
                if isinstance(node, ast.Attribute) and isinstance(node.ctx, ast.Store):
                    attributes.add(node.attr)
        self.assertEqual(methods & attributes, set())
        taken = set(dir(str)) | set(dir(int)) | set(dir(list)) | set(dir(dict)) | set(dir(set)) | set(dir(bytes))
        self.assertLessEqual(methods & taken, set(DUNDERS))

    def test_imports(self):
        needs = {}
        for name, tree in parsed():
            needs[name] = set()
            bound = []
            for node in ast.walk(tree):
                if isinstance(node, ast.ImportFrom):
                    self.assertEqual(node.level, 0)
                    self.assertTrue(node.module.startswith("ruleshadows."), (name, node.module))
                    other = node.module.split(".")[1] + ".py"
                    needs[name].add(other)
                    defined = [
                        thing.name for thing in ast.parse(text_of(other)).body
                        if isinstance(thing, (ast.FunctionDef, ast.ClassDef))
                    ] + [
                        thing.targets[0].id for thing in ast.parse(text_of(other)).body if isinstance(thing, ast.Assign)
                    ]
                    for alias in node.names:
                        self.assertIsNone(alias.asname)
                        self.assertIn(alias.name, defined, name)
                        bound.append(alias.name)
            for node in tree.body:
                if isinstance(node, (ast.FunctionDef, ast.ClassDef)):
                    bound.append(node.name)
            self.assertEqual(len(bound), len(set(bound)), name)
            imported = [alias.name for node in tree.body if isinstance(node, ast.ImportFrom) for alias in node.names]
            used = {node.id for node in ast.walk(tree) if isinstance(node, ast.Name)}
            self.assertEqual([word for word in imported if word not in used], [], name)
        while needs:
            free = [name for name in needs if not needs[name] & set(needs)]
            self.assertTrue(free, "imports go in a ring: " + ", ".join(sorted(needs)))
            for name in free:
                del needs[name]

    def test_names(self):
        for name, tree in parsed():
            taken = {node.name for node in ast.walk(tree) if isinstance(node, ast.ClassDef)}
            taken |= {alias.name for node in tree.body if isinstance(node, ast.ImportFrom) for alias in node.names}
            own = {node.name for node in tree.body if isinstance(node, ast.FunctionDef)}
            for node in functions(tree):
                bound = set(assigned(node))
                for part in ast.walk(node):
                    if isinstance(part, ast.comprehension):
                        bound |= set(names_of(part.target))
                for word in bound:
                    self.assertNotIn(word, taken | own, (name, node.name))
                    self.assertNotIn(word, dir(builtins), (name, node.name))
                if node.name.startswith("__"):
                    self.assertIn(node.name, DUNDERS)
                elif not isinstance(node.above, ast.ClassDef):
                    self.assertNotIn(node.name, dir(builtins))
            for word in BARRED_WORDS:
                code = re.sub(r'"""[\s\S]*?"""|#.*', "", text_of(name))
                self.assertNotRegex(code, r"\b" + word + r"\b", name)

    def test_comprehension_variables_stand_alone(self):
        for name, tree in parsed():
            for function in functions(tree):
                outer = assigned(function)
                for node in ast.walk(function):
                    if not isinstance(node, COMPREHENSIONS):
                        continue
                    above = node.above
                    further = set()
                    nested = False
                    while above is not function:
                        if isinstance(above, COMPREHENSIONS):
                            nested = True
                            for part in above.generators:
                                further |= set(names_of(part.target))
                        above = above.above
                    mine = {word for part in node.generators for word in names_of(part.target)}
                    if nested:
                        self.assertEqual(mine & (further | outer), set(), (name, function.name, node.lineno))

    def test_expressions(self):
        for name, tree in parsed():
            own = {node.name for node in ast.walk(tree) if isinstance(node, (ast.FunctionDef, ast.ClassDef))}
            own |= {alias.name for node in tree.body if isinstance(node, ast.ImportFrom) for alias in node.names}
            for node in ast.walk(tree):
                where = (name, getattr(node, "lineno", 0))
                self.assertNotIsInstance(
                    node, (ast.GeneratorExp, ast.Lambda, ast.Starred, ast.NamedExpr, ast.Yield, ast.YieldFrom,
                           ast.SetComp, ast.Set, ast.Global, ast.Nonlocal, ast.AnnAssign, ast.Div), where)
                if isinstance(node, ast.BinOp) and isinstance(node.op, ast.Pow):
                    self.assertIsInstance(node.right, ast.Constant, where)
                    self.assertIn(node.right.value, range(65), where)
                if isinstance(node, ast.Constant):
                    self.assertNotIsInstance(node.value, (float, complex, bytes), where)
                    if isinstance(node.value, str) and not isinstance(node.above, ast.Expr):
                        self.assertNotIn("%", node.value, where)
                if isinstance(node, ast.Compare) and isinstance(node.ops[0], (ast.Is, ast.IsNot)):
                    self.assertIn(ast.unparse(node.comparators[0]), ("None", "True", "False"), where)
                if isinstance(node, ast.Call):
                    self.check_call(node, own, where)

    def check_call(self, node, own, where):
        if isinstance(node.func, ast.Name):
            word = node.func.id
            self.assertTrue(word in own or word in CALLED, (where, word))
            if word in CALLED:
                self.assertLessEqual({key.arg for key in node.keywords}, KEYWORDS.get(word, set()), where)
            if word == "set":
                above = node.above
                local = isinstance(above, ast.Assign)
                placed = isinstance(above, ast.Call) and above.func.id in ("sorted", "len")
                self.assertTrue(local or placed, where)
        if isinstance(node.func, ast.Attribute):
            word = node.func.attr
            self.assertNotEqual(word, "sort", where)
            if word in METHODS:
                self.assertEqual(node.keywords, [], where)
        last = node.func.id if isinstance(node.func, ast.Name) else node.func.attr
        if last in AT_ONCE and (isinstance(node.func, ast.Name) or not node.args):
            above = node.above
            if isinstance(above, ast.Assign):
                self.assertEqual(last, "range", where)
            elif isinstance(above, ast.Call):
                self.assertIn(above.func.id, ("list", "tuple", "dict", "sorted", "sum", "enumerate", "zip", "reversed",
                                              "min", "max"), where)
            else:
                self.assertIsInstance(above, (ast.For, ast.comprehension, ast.Compare), where)

    def test_loops_leave_what_they_go_over(self):
        for name, tree in parsed():
            for node in ast.walk(tree):
                if not isinstance(node, ast.For):
                    continue
                over = node.iter
                while isinstance(over, ast.Call) and over.args and getattr(over.func, "id", "") in ("enumerate", "zip"):
                    over = over.args[0]
                if isinstance(over, ast.Call) and isinstance(over.func, ast.Attribute):
                    over = over.func.value
                if isinstance(over, ast.Call):
                    continue
                gone = ast.unparse(over)
                for part in [inner for row in node.body for inner in ast.walk(row)]:
                    if isinstance(part, ast.Call) and isinstance(part.func, ast.Attribute):
                        if part.func.attr in ("append", "pop", "extend", "insert", "remove", "clear", "update",
                                              "setdefault", "reverse"):
                            self.assertNotEqual(ast.unparse(part.func.value), gone, (name, part.lineno))
                    if isinstance(part, ast.Subscript) and isinstance(part.ctx, (ast.Store, ast.Del)):
                        self.assertNotEqual(ast.unparse(part.value), gone, (name, part.lineno))


if __name__ == "__main__":
    unittest.main()
