"""Those rules of the language that a look at the text can judge, over all files of the package."""

import ast
import os
import re
import unittest

ROOT = os.path.dirname(os.path.dirname(os.path.abspath(__file__)))
PACKAGE = os.path.join(ROOT, "justfreed")
BUILTINS = set(
    "len range enumerate zip min max sum abs sorted reversed int str bool bytes list tuple dict set frozenset isinstance "
    "ord repr any all divmod pow map type super Exception ValueError TypeError KeyError IndexError LookupError "
    "ZeroDivisionError ArithmeticError OverflowError RuntimeError NotImplementedError".split())
METHODS = set(
    "append clear copy count endswith extend find get index insert isalnum isalpha isdigit islower isspace isupper items "
    "join keys ljust lower lstrip partition pop remove replace reverse rfind rjust rpartition rsplit rstrip setdefault "
    "split splitlines startswith strip update upper values zfill bit_length __init__".split())
NEVER_NAMES = set("register mro elements open input law version_info with_traceback add_note".split())
NEVER_WORDS = set(
    "typing typing_extensions enum Enum IntEnum StrEnum Flag IntFlag Generic Protocol ABC ABCMeta namedtuple NamedTuple "
    "TypedDict TYPE_CHECKING abstractmethod".split())
BARRED = (ast.AsyncFunctionDef, ast.Global, ast.Await, ast.AsyncFor, ast.AsyncWith, ast.Div, ast.MatMult, ast.Import)


def files():
    found = {}
    for name in sorted(os.listdir(PACKAGE)):
        if name != "__pycache__":
            with open(os.path.join(PACKAGE, name), encoding="utf-8") as file:
                found[name] = file.read()
    return found


def bound_names(tree):
    for node in ast.walk(tree):
        if isinstance(node, ast.Name) and isinstance(node.ctx, ast.Store):
            yield node.id
        elif isinstance(node, (ast.FunctionDef, ast.ClassDef)):
            yield node.name
        elif isinstance(node, ast.arg):
            yield node.arg
        elif isinstance(node, ast.Attribute):
            yield node.attr
        elif isinstance(node, ast.keyword) and node.arg:
            yield node.arg


class LanguageTest(unittest.TestCase):
    def test_only_python_files_with_plain_names(self):
        for name in files():
            self.assertRegex(name, r"^[a-z_][a-z0-9_]*\.py$")

    def test_signs_and_sizes(self):
        for name, text in files().items():
            self.assertRegex(text, r"\A[\n -~]*\n\Z", name)
            lines = text.split("\n")
            self.assertLessEqual(len(lines), 399, name)
            self.assertLessEqual(max(len(line) for line in lines), 120, name)
            for node in ast.walk(ast.parse(text)):
                if isinstance(node, ast.FunctionDef):
                    self.assertLessEqual(node.end_lineno - node.lineno + 1, 40, (name, node.name))

    def test_module_level(self):
        for name, text in files().items():
            for node in ast.parse(text).body:
                docstring = isinstance(node, ast.Expr) and isinstance(node.value, ast.Constant)
                self.assertTrue(docstring or isinstance(node, (ast.ImportFrom, ast.FunctionDef, ast.ClassDef, ast.Assign)),
                                (name, node.lineno))

    def test_imports(self):
        leads = {}
        for name, text in files().items():
            module = "justfreed." + name[:-3]
            leads[module] = []
            for node in ast.walk(ast.parse(text)):
                if isinstance(node, ast.ImportFrom):
                    self.assertEqual(node.level, 0)
                    self.assertTrue(node.module.startswith("justfreed."), (name, node.module))
                    self.assertIn(node.module[len("justfreed."):] + ".py", files())
                    leads[module].append(node.module)
                    for alias in node.names:
                        self.assertIsNone(alias.asname)
                        self.assertRegex(files()[node.module[len("justfreed."):] + ".py"],
                                         rf"(?m)^(def|class) {alias.name}\b|^{alias.name} = ")
        done = []
        while leads:
            free = [module for module, wanted in leads.items() if all(other in done for other in wanted)]
            self.assertTrue(free, f"files import from each other: {sorted(leads)}")
            done += free
            for module in free:
                del leads[module]

    def test_names_and_words(self):
        for name, text in files().items():
            tree = ast.parse(text)
            own_builtins = set(dir(__builtins__)) if not isinstance(__builtins__, dict) else set(__builtins__)
            for bound in bound_names(tree):
                self.assertNotIn(bound, NEVER_NAMES, name)
                self.assertFalse(bound.startswith("__") and bound != "__init__", (name, bound))
            for node in ast.walk(tree):
                if isinstance(node, ast.Name) and isinstance(node.ctx, ast.Store) or isinstance(node, ast.arg):
                    word = node.id if isinstance(node, ast.Name) else node.arg
                    self.assertNotIn(word, own_builtins, (name, word))
                if isinstance(node, ast.Name) and isinstance(node.ctx, ast.Load) and node.id in own_builtins:
                    self.assertIn(node.id, BUILTINS, (name, node.lineno))
                self.assertNotIsInstance(node, BARRED, (name, getattr(node, "lineno", 0)))
                if isinstance(node, ast.Constant):
                    self.assertNotIsInstance(node.value, (float, complex), name)
            code = ast.unparse(without_docstrings(tree))
            for word in re.findall(r"\w+", code):
                self.assertNotIn(word, NEVER_WORDS, name)
            for word in re.findall(r"\btype\b(?!\()", code):
                self.fail((name, word))

    def test_no_local_name_is_that_of_an_import_or_a_class(self):
        for name, text in files().items():
            tree = ast.parse(text)
            barred = {alias.name for node in tree.body if isinstance(node, ast.ImportFrom) for alias in node.names}
            barred |= {node.name for node in tree.body if isinstance(node, ast.ClassDef)}
            for function in ast.walk(tree):
                if isinstance(function, ast.FunctionDef):
                    for node in ast.walk(function):
                        if isinstance(node, ast.Name) and isinstance(node.ctx, ast.Store):
                            self.assertNotIn(node.id, barred, (name, node.lineno))
                        if isinstance(node, ast.arg):
                            self.assertNotIn(node.arg, barred, (name, node.lineno))

    def test_values_at_module_level_are_written_out(self):
        for name, text in files().items():
            for node in ast.parse(text).body:
                if isinstance(node, ast.Assign):
                    self.assertEqual([type(target) for target in node.targets], [ast.Name], (name, node.lineno))
                    for part in ast.walk(node.value):
                        self.assertNotIsInstance(part, (ast.Call, ast.BinOp, ast.ListComp, ast.DictComp, ast.SetComp, ast.Set),
                                                 (name, node.lineno))

    def test_methods_that_are_called(self):
        for name, text in files().items():
            for node in ast.walk(ast.parse(text)):
                if isinstance(node, ast.Call) and isinstance(node.func, ast.Attribute):
                    self.assertIn(node.func.attr, METHODS, (name, node.lineno))

    def test_functions_have_docstrings_and_no_decorators(self):
        for name, text in files().items():
            tree = ast.parse(text)
            self.assertTrue(ast.get_docstring(tree), name)
            for node in ast.walk(tree):
                if isinstance(node, (ast.FunctionDef, ast.ClassDef)):
                    self.assertEqual(node.decorator_list, [], (name, node.name))
                    self.assertTrue(ast.get_docstring(node) or node.name == "__init__", (name, node.name))


def without_docstrings(tree):
    for node in ast.walk(tree):
        if isinstance(node, (ast.Module, ast.FunctionDef, ast.ClassDef)) and ast.get_docstring(node):
            node.body = node.body[1:] or [ast.Pass()]
    return tree


if __name__ == "__main__":
    unittest.main()
