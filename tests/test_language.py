"""The rules of the language that a look at the files can tell, and where the interface is defined."""

import ast
import builtins
import pathlib
import unittest

PACKAGE = pathlib.Path(__file__).resolve().parent.parent / "quillmoot"

# L8, but for print, which only __main__.py has
BUILTINS = set("""len range enumerate zip min max sum abs sorted reversed int str bool bytes list tuple dict set frozenset
isinstance ord repr any all divmod pow getattr hasattr setattr iter next map super property staticmethod classmethod object
Exception ValueError TypeError KeyError IndexError LookupError ZeroDivisionError ArithmeticError OverflowError RuntimeError
NotImplementedError AttributeError StopIteration NotImplemented""".split())

# L2
LIBRARY = {"heapq", "math", "itertools", "collections"}

# the functions and classes of the interface, by the file that defines them
INTERFACE = {
    "errors.py": """MootError InvalidDeed InvalidHistory InvalidClock InvalidNumber InvalidText Misfit Unlike NoBlock NoSign
        NotAllowed Undefined""",
    "clocks.py": "is_clock joined met is_within order_of",
    "deeds.py": "is_act is_deed id_of",
}


def sources():
    return [path for path in sorted(PACKAGE.rglob("*.py")) if "__pycache__" not in path.parts]


def nodes(path, *kinds):
    return [node for node in ast.walk(ast.parse(path.read_text("utf-8"))) if isinstance(node, kinds)]


class Language(unittest.TestCase):
    def test_only_python_files_with_plain_names(self):
        for path in PACKAGE.rglob("*"):
            if "__pycache__" not in path.parts and not path.is_dir():
                self.assertRegex(path.name, r"\A[a-z0-9_]+\.py\Z")
        self.assertTrue((PACKAGE / "__init__.py").is_file())

    def test_plain_characters(self):
        for path in sources():
            signs = set(path.read_bytes())
            self.assertLessEqual(signs, set(range(32, 127)) | {10}, path.name)

    def test_sizes(self):
        for path in sources():
            lines = path.read_text("utf-8").splitlines()
            self.assertLessEqual(len(lines), 399, path.name)
            self.assertLessEqual(max(map(len, lines)), 120, path.name)
            for node in nodes(path, ast.FunctionDef):
                self.assertLessEqual(node.end_lineno - node.lineno + 1, 40, node.name)

    def test_imports(self):
        names = {path.stem for path in sources()}
        for path in sources():
            for node in nodes(path, ast.Import, ast.ImportFrom):
                self.assertIsInstance(node, ast.ImportFrom, path.name)
                self.assertEqual(node.level, 0, path.name)
                home, _, inner = node.module.partition(".")
                if home == "quillmoot":
                    self.assertIn(inner, names)
                else:
                    self.assertIn(node.module, LIBRARY, path.name)

    def test_no_two_files_import_from_each_other(self):
        needs = {}
        for path in sources():
            modules = [node.module for node in nodes(path, ast.ImportFrom)]
            needs[path.stem] = [module.partition(".")[2] for module in modules if module.startswith("quillmoot.")]
        while needs:
            free = [name for name, others in needs.items() if not any(other in needs for other in others)]
            self.assertTrue(free, "these import from each other: " + " ".join(needs))
            needs = {name: others for name, others in needs.items() if name not in free}

    def test_builtins(self):
        for path in sources():
            for node in nodes(path, ast.Name):
                if hasattr(builtins, node.id):
                    self.assertIn(node.id, BUILTINS, path.name)

    def test_statements_and_values_outside_the_language(self):
        barred = (ast.Global, ast.AsyncFunctionDef, ast.AsyncFor, ast.AsyncWith, ast.Await, ast.Div)
        for path in sources():
            self.assertEqual(nodes(path, *barred), [], path.name)
            for node in nodes(path, ast.Constant):
                self.assertNotIsInstance(node.value, (float, complex), path.name)
                if isinstance(node.value, str):
                    self.assertNotIn("%", node.value, path.name)

    def test_module_level(self):
        plain = (ast.Import, ast.ImportFrom, ast.FunctionDef, ast.ClassDef, ast.Assign, ast.AnnAssign)
        for path in sources():
            tree = ast.parse(path.read_text("utf-8"))
            self.assertIsNotNone(ast.get_docstring(tree), path.name)
            for node in tree.body[1:]:
                self.assertIsInstance(node, plain, path.name)


class Interface(unittest.TestCase):
    def test_each_name_is_defined_in_its_file(self):
        for name, words in INTERFACE.items():
            body = ast.parse((PACKAGE / name).read_text("utf-8")).body
            defined = {node.name for node in body if isinstance(node, (ast.FunctionDef, ast.ClassDef))}
            with self.subTest(file=name):
                self.assertLessEqual(set(words.split()), defined)


if __name__ == "__main__":
    unittest.main()
