"""The form of the code: the rules of the subset that can be told by a look at each file."""

import ast
import os
import re
import unittest

FOLDER = os.path.join(os.path.dirname(os.path.dirname(os.path.abspath(__file__))), "leafward")
BUILTINS = (
    "len", "range", "enumerate", "zip", "min", "max", "sum", "abs", "sorted", "reversed", "int", "str", "bool", "list",
    "tuple", "dict", "isinstance", "any", "all", "ValueError",
)
METHODS = (
    "append", "bit_length", "count", "extend", "get", "isascii", "isdigit", "items", "join", "pop", "setdefault", "split",
)
UNUSED_WORDS = r"\b(type|typing|enum|Enum|namedtuple|Generic|Protocol|ABC|Flag)\b|dataclass|overload"
FORBIDDEN = (
    ast.Global, ast.AsyncFunctionDef, ast.Await, ast.AsyncFor, ast.AsyncWith, ast.Import, ast.Div, ast.MatMult,
)


def files():
    return sorted(name for name in os.listdir(FOLDER) if not name.startswith("__pycache__"))


def text_of(name):
    with open(os.path.join(FOLDER, name), encoding="utf-8") as file:
        return file.read()


class Language(unittest.TestCase):
    def test_names_of_files(self):
        for name in files():
            self.assertRegex(name, r"^[a-z_][a-z0-9_]*\.py$")

    def test_characters_and_lengths(self):
        for name in files():
            text = text_of(name)
            lines = text.split("\n")
            self.assertTrue(all(sign == "\n" or " " <= sign <= "~" for sign in text), name)
            self.assertLessEqual(len(lines), 399, name)
            self.assertLessEqual(max(len(line) for line in lines), 120, name)
            self.assertIsNone(re.search("[%]", text), name)

    def test_functions_are_small_and_plain(self):
        for name in files():
            for node in ast.walk(ast.parse(text_of(name))):
                self.assertNotIsInstance(node, FORBIDDEN, name)
                if isinstance(node, (ast.FunctionDef, ast.ClassDef)):
                    self.assertEqual(node.decorator_list, [], name)
                    self.assertIsNotNone(ast.get_docstring(node) or node.name == "__init__" or None, node.name)
                if isinstance(node, ast.FunctionDef):
                    self.assertLessEqual(node.end_lineno - node.lineno + 1, 40, node.name)
                if isinstance(node, ast.Constant):
                    self.assertNotIsInstance(node.value, (float, complex), name)

    def test_imports(self):
        for name in files():
            tree = ast.parse(text_of(name))
            found = [node for node in ast.walk(tree) if isinstance(node, ast.ImportFrom)]
            for node in found:
                self.assertIn(node, tree.body)
                self.assertEqual(node.level, 0)
                self.assertRegex(node.module, r"^leafward\.[a-z_]+$")
                defined = module_names(ast.parse(text_of(node.module.split(".")[1] + ".py")))
                for alias in node.names:
                    self.assertIsNone(alias.asname)
                    self.assertIn(alias.name, defined)

    def test_no_file_imports_itself_over_others(self):
        imports = {}
        for name in files():
            nodes = [node for node in ast.walk(ast.parse(text_of(name))) if isinstance(node, ast.ImportFrom)]
            imports[name] = {node.module.split(".")[1] + ".py" for node in nodes}
        done = set()
        while len(done) < len(imports):
            ready = {name for name in imports if name not in done and imports[name] <= done}
            self.assertTrue(ready, "imports go round")
            done |= ready

    def test_names_that_are_called(self):
        own = set()
        for name in files():
            nodes = ast.walk(ast.parse(text_of(name)))
            own |= {node.name for node in nodes if isinstance(node, (ast.FunctionDef, ast.ClassDef))}
        for name in files():
            for node in ast.walk(ast.parse(text_of(name))):
                if isinstance(node, ast.Call) and isinstance(node.func, ast.Name):
                    self.assertIn(node.func.id, own | set(BUILTINS), name)
                elif isinstance(node, ast.Call):
                    self.assertIn(node.func.attr, own | set(METHODS), name)

    def test_words_that_are_not_used(self):
        for name in files():
            for node in ast.walk(ast.parse(text_of(name))):
                word = getattr(node, "id", None) or getattr(node, "attr", None) or getattr(node, "arg", None) or ""
                self.assertIsNone(re.search(UNUSED_WORDS, str(word)), name)
                self.assertNotIn(word, ("set", "frozenset", "chr", "bytes", "open", "input", "map", "filter", "next"))

    def test_names_are_bound_once(self):
        for name in files():
            tree = ast.parse(text_of(name))
            bound = module_names(tree)
            self.assertEqual(len(bound), len(set(bound)), name)
            barred = {node.name for node in tree.body if isinstance(node, ast.ClassDef)} | imported_names(tree)
            for node in ast.walk(tree):
                if isinstance(node, ast.arg):
                    self.assertNotIn(node.arg, barred, name)
                if isinstance(node, ast.Name) and isinstance(node.ctx, ast.Store):
                    self.assertNotIn(node.id, barred, name)


def imported_names(tree):
    return {alias.name for node in tree.body if isinstance(node, ast.ImportFrom) for alias in node.names}


def module_names(tree):
    """All names that a file defines at module level."""
    found = []
    for node in tree.body:
        if isinstance(node, (ast.FunctionDef, ast.ClassDef)):
            found.append(node.name)
        if isinstance(node, ast.Assign):
            found += [target.id for target in node.targets]
    return found


if __name__ == "__main__":
    unittest.main()
