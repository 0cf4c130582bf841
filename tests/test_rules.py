"""The rules of the Python subset that can be seen in the files of the package, one by one."""

import ast
import builtins
import pathlib
import re
import unittest

PACKAGE = pathlib.Path(__file__).parent.parent / "anyhalf"
FILES = {path.stem: path.read_text(encoding="utf-8") for path in sorted(PACKAGE.glob("*.py"))}
TREES = {name: ast.parse(text) for name, text in FILES.items()}
STATEMENTS = (ast.Global, ast.AsyncFor, ast.AsyncWith, ast.AsyncFunctionDef, ast.Try, ast.Match, ast.With)
VALUES = (ast.GeneratorExp, ast.Lambda, ast.NamedExpr, ast.Yield, ast.YieldFrom, ast.Await, ast.Set, ast.SetComp)
CALLED = {"len", "range", "enumerate", "zip", "min", "max", "sum", "abs", "sorted", "reversed", "int", "str", "bool",
          "list", "tuple", "dict", "set", "isinstance", "ord", "repr", "any", "all", "divmod", "ValueError"}
METHODS = {"append", "clear", "copy", "count", "endswith", "extend", "find", "get", "index", "insert", "isalnum",
           "isalpha", "isdigit", "items", "join", "keys", "lstrip", "partition", "pop", "remove", "replace", "reverse",
           "rfind", "rpartition", "rstrip", "setdefault", "split", "startswith", "strip", "update", "values"}
ATTRIBUTES_BARRED = {"items", "keys", "values", "pop", "update", "append", "clear", "extend", "insert", "remove",
                     "reverse", "setdefault", "sort", "args", "encode", "decode", "hex", "format", "register", "mro",
                     "elements", "open", "input", "law"}
WORDS_BARRED = ("type", "typing", "enum", "Enum", "Flag", "Generic", "Protocol", "ABC", "namedtuple", "TypedDict",
                "abstractmethod")
METHODS_OWN = {"__init__", "__eq__"}


def nodes(kind):
    for name, tree in TREES.items():
        for node in ast.walk(tree):
            if isinstance(node, kind):
                yield name, node


def names_bound(function):
    """The parameters and local variables of a function."""
    found = {argument.arg for argument in function.args.args}
    for node in ast.walk(function):
        if isinstance(node, ast.Name) and isinstance(node.ctx, ast.Store):
            found.add(node.id)
    return found


def top_names(tree):
    """What a file defines and imports."""
    defined = {node.name for node in tree.body if isinstance(node, (ast.FunctionDef, ast.ClassDef))}
    defined |= {node.targets[0].id for node in tree.body if isinstance(node, ast.Assign)}
    imported = {alias.name for node in tree.body if isinstance(node, ast.ImportFrom) for alias in node.names}
    return defined, imported


class RulesTest(unittest.TestCase):
    def test_folder_and_signs(self):
        for path in PACKAGE.iterdir():
            self.assertTrue(path.suffix == ".py" or path.name == "__pycache__", path)
        for name, text in FILES.items():
            self.assertTrue(name == name.lower() and name not in dir(builtins), name)
            self.assertTrue(all(sign == "\n" or " " <= sign <= "~" for sign in text), name)
            self.assertTrue(all(len(line) <= 120 for line in text.split("\n")), name)
            self.assertLess(text.count("\n"), 400, name)

    def test_size_of_functions(self):
        for name, node in nodes(ast.FunctionDef):
            self.assertLessEqual(node.end_lineno - node.lineno + 1, 40, (name, node.name))
            self.assertEqual(node.decorator_list, [], (name, node.name))

    def test_module_level(self):
        for name, tree in TREES.items():
            kinds = (ast.ImportFrom, ast.FunctionDef, ast.ClassDef, ast.Assign)
            for node in tree.body[1:]:
                self.assertIsInstance(node, kinds, (name, node.lineno))
            self.assertIsNotNone(ast.get_docstring(tree), name)
            for node in tree.body:
                if isinstance(node, ast.Assign):
                    self.assertFalse([n for n in ast.walk(node) if isinstance(n, ast.Call)], (name, node.lineno))

    def test_imports(self):
        for name, node in nodes((ast.Import, ast.ImportFrom)):
            self.assertIsInstance(node, ast.ImportFrom, name)
            self.assertTrue(node.module.startswith("anyhalf."), name)
            defined, _ = top_names(TREES[node.module.partition(".")[2]])
            for alias in node.names:
                self.assertIn(alias.name, defined, name)
                self.assertIsNone(alias.asname, name)
                self.assertGreater(len(re.findall(r"\b" + alias.name + r"\b", FILES[name])), 1, (name, alias.name))

    def test_no_ring_of_imports(self):
        left = {name: {node.module.partition(".")[2] for node in tree.body if isinstance(node, ast.ImportFrom)}
                for name, tree in TREES.items()}
        while left:
            free = [name for name, needed in left.items() if not needed & set(left)]
            self.assertTrue(free, left)
            for name in free:
                del left[name]

    def test_names(self):
        for name, tree in TREES.items():
            defined, imported = top_names(tree)
            self.assertFalse(defined & imported, name)
            self.assertFalse(defined & set(dir(builtins)), name)
            classes = {node.name for node in tree.body if isinstance(node, ast.ClassDef)}
            for node in ast.walk(tree):
                if isinstance(node, ast.FunctionDef):
                    bound = names_bound(node)
                    self.assertFalse(bound & (imported | classes | set(dir(builtins))), (name, node.name))
                    self.assertFalse(bound & {"law", "register", "elements", "sys", "os", "gc"}, (name, node.name))
                if isinstance(node, (ast.Name, ast.FunctionDef)):
                    word = node.id if isinstance(node, ast.Name) else node.name
                    self.assertTrue(not word.startswith("__") or word in METHODS_OWN, (name, word))

    def test_builtins(self):
        for name, tree in TREES.items():
            known = set().union(*top_names(tree))
            for node in ast.walk(tree):
                if isinstance(node, ast.FunctionDef):
                    known |= names_bound(node) | {node.name}
                if isinstance(node, ast.comprehension):
                    known |= {n.id for n in ast.walk(node.target) if isinstance(n, ast.Name)}
            for node in ast.walk(tree):
                if isinstance(node, ast.Name) and node.id not in known:
                    self.assertIn(node.id, CALLED, (name, node.lineno))

    def test_statements_and_values(self):
        for name, node in nodes(STATEMENTS + VALUES):
            self.fail((name, node.lineno, node))
        for name, node in nodes((ast.BinOp, ast.AugAssign)):
            self.assertNotIsInstance(node.op, (ast.Div, ast.MatMult), (name, node.lineno))
            if isinstance(node.op, ast.Pow):
                self.assertIsInstance(node.right, ast.Constant, (name, node.lineno))
        for name, node in nodes(ast.Constant):
            self.assertNotIsInstance(node.value, (float, complex, bytes), (name, node.lineno))
            if isinstance(node.value, str):
                self.assertNotIn("%", node.value, (name, node.lineno))
        for name, node in nodes(ast.Compare):
            for op, right in zip(node.ops, node.comparators):
                if isinstance(op, (ast.Is, ast.IsNot)):
                    self.assertTrue(isinstance(right, ast.Constant) and right.value in (None, True, False), name)

    def test_methods_and_attributes(self):
        own = {node.name for _, node in nodes(ast.FunctionDef)}
        assigned = {node.attr for _, node in nodes(ast.Attribute) if isinstance(node.ctx, ast.Store)}
        self.assertFalse(assigned & ATTRIBUTES_BARRED)
        for name, node in nodes(ast.Call):
            if isinstance(node.func, ast.Attribute):
                self.assertIn(node.func.attr, METHODS | own, (name, node.lineno))
        for name, node in nodes(ast.Attribute):
            self.assertIn(node.attr, METHODS | own | assigned, (name, node.lineno))
        for name, node in nodes(ast.ClassDef):
            methods = [part.name for part in node.body if isinstance(part, ast.FunctionDef)]
            self.assertEqual(len(methods), len(set(methods)), name)
            mine = {part.attr for part in ast.walk(node) if isinstance(part, ast.Attribute)
                    and isinstance(part.ctx, ast.Store) and part.value.id == "self"}
            self.assertFalse(mine & set(methods), (name, node.name))

    def test_barred_words(self):
        for name, node in nodes((ast.Name, ast.Constant)):
            text = node.id if isinstance(node, ast.Name) else node.value
            if isinstance(text, str) and "\n" not in text and " " not in text:
                for word in WORDS_BARRED:
                    self.assertNotIn(word, re.findall(r"\w+", text), (name, node.lineno))
