"""The form of the package: the rules of ../shared/LANGUAGE.md that are easily broken unseen."""

import ast
import builtins
import pathlib
import unittest

PACKAGE = pathlib.Path(__file__).resolve().parent.parent / "switchyard"
BUILTINS = {
    "len", "range", "enumerate", "zip", "min", "max", "sum", "abs", "sorted", "reversed", "int", "str", "bool", "list",
    "tuple", "dict", "set", "isinstance", "ord", "repr", "any", "all", "divmod", "ValueError", "KeyError",
}
METHODS = set("""
append clear copy count endswith extend find get index insert isalnum isalpha isdigit islower isspace isupper items
join keys ljust lower lstrip partition pop remove replace reverse rfind rjust rpartition rsplit rstrip setdefault split
splitlines startswith strip update upper values zfill bit_length add discard
""".split())
SPECIAL = {"__init__", "__eq__", "__bool__"}
TAKEN = {name for name in dir(builtins) if not name.startswith("_")}
BARRED = {"mro", "elements", "open", "input", "law", "register", "type", "help", "id", "dir", "vars", "exit", "compile"}


def sources():
    return sorted(PACKAGE.rglob("*.py"))


def trees():
    return [(path.name, ast.parse(path.read_text(encoding="utf-8"))) for path in sources()]


def bound_names(tree):
    names = set()
    for node in ast.walk(tree):
        if isinstance(node, (ast.FunctionDef, ast.ClassDef)):
            names.add(node.name)
        elif isinstance(node, ast.arg):
            names.add(node.arg)
        elif isinstance(node, ast.Name) and not isinstance(node.ctx, ast.Load):
            names.add(node.id)
        elif isinstance(node, ast.ImportFrom):
            names.update(alias.name for alias in node.names)
    return names


class Form(unittest.TestCase):
    def test_files(self):
        for path in PACKAGE.rglob("*"):
            if "__pycache__" not in path.parts:
                self.assertEqual(path.suffix, ".py", path)
        for path in sources():
            lines = path.read_text(encoding="ascii").split("\n")
            self.assertLessEqual(len(lines) - 1, 399, path)
            self.assertEqual(lines[-1], "", path)
            for number, line in enumerate(lines, start=1):
                self.assertLessEqual(len(line), 120, (path, number))
                self.assertTrue(all(" " <= sign <= "~" for sign in line), (path, number))
                self.assertEqual(line, line.rstrip(), (path, number))

    def test_functions_are_short(self):
        for name, tree in trees():
            for node in ast.walk(tree):
                if isinstance(node, ast.FunctionDef):
                    self.assertLessEqual(node.end_lineno - node.lineno + 1, 40, (name, node.name))
                    self.assertEqual(node.decorator_list, [], (name, node.name))
                    if node.name.startswith("__"):
                        self.assertIn(node.name, SPECIAL, name)

    def test_imports_name_modules_of_the_package(self):
        for name, tree in trees():
            for node in ast.walk(tree):
                self.assertNotIsInstance(node, ast.Import, name)
                if isinstance(node, ast.ImportFrom):
                    self.assertTrue(node.module.startswith("switchyard."), (name, node.module))
                    defined = PACKAGE / (node.module.partition(".")[2] + ".py")
                    names = {part.name for part in ast.parse(defined.read_text()).body if hasattr(part, "name")}
                    names |= {part.targets[0].id for part in ast.parse(defined.read_text()).body
                              if isinstance(part, ast.Assign)}
                    for alias in node.names:
                        self.assertIn(alias.name, names, (name, node.module))

    def test_methods(self):
        for name, tree in trees():
            own = {node.name for _, other in trees() for node in ast.walk(other) if isinstance(node, ast.FunctionDef)}
            for node in ast.walk(tree):
                if isinstance(node, ast.Call) and isinstance(node.func, ast.Attribute):
                    self.assertIn(node.func.attr, METHODS | own, (name, node.lineno))

    def test_names_and_builtins(self):
        for name, tree in trees():
            for bound in bound_names(tree):
                self.assertNotIn(bound, TAKEN, (name, bound))
                self.assertNotIn(bound, BARRED, name)
            for node in ast.walk(tree):
                if isinstance(node, ast.Name) and node.id in TAKEN:
                    self.assertIn(node.id, BUILTINS, (name, node.lineno))

    def test_no_parts_of_the_language_that_are_barred(self):
        barred = (ast.GeneratorExp, ast.AsyncFunctionDef, ast.Global, ast.Div, ast.Yield, ast.YieldFrom)
        for name, tree in trees():
            for node in ast.walk(tree):
                self.assertNotIsInstance(node, barred, (name, getattr(node, "lineno", 0)))
                if isinstance(node, ast.Constant):
                    self.assertNotIsInstance(node.value, float, (name, node.lineno))
                    if isinstance(node.value, str):
                        self.assertNotIn("%", node.value, (name, node.lineno))

    def test_only_own_errors_are_caught(self):
        own = {node.name for name, tree in trees() for node in tree.body
               if name in ("errors.py", "judgeerrors.py") and isinstance(node, ast.ClassDef)}
        for name, tree in trees():
            for node in ast.walk(tree):
                if isinstance(node, ast.Try):
                    self.assertEqual((node.orelse, node.finalbody), ([], []), (name, node.lineno))
                if isinstance(node, ast.ExceptHandler):
                    self.assertIn(getattr(node.type, "id", ""), own, (name, node.lineno))

    def test_no_import_in_a_ring(self):
        needs = {}
        for name, tree in trees():
            needs[name] = {node.module.partition(".")[2] + ".py" for node in tree.body if isinstance(node, ast.ImportFrom)}
        while needs:
            free = [name for name in needs if not needs[name] & set(needs)]
            self.assertNotEqual(free, [], needs)
            for name in free:
                del needs[name]


if __name__ == "__main__":
    unittest.main()
