"""The rules of the language that a look at the files can tell, and where the interface is defined."""

import ast
import builtins
import pathlib
import unittest

PACKAGE = pathlib.Path(__file__).resolve().parent.parent / "quillmoot"

TAKEN = set(dir(builtins))

# L8, but for print, which only __main__.py has
BUILTINS = set("""len range enumerate zip min max sum abs sorted reversed int str bool bytes list tuple dict set frozenset
isinstance ord repr any all divmod pow getattr hasattr setattr iter next map super property staticmethod classmethod object
Exception ValueError TypeError KeyError IndexError LookupError ZeroDivisionError ArithmeticError OverflowError RuntimeError
NotImplementedError AttributeError StopIteration NotImplemented""".split())

# L2
LIBRARY = {"heapq", "math", "itertools", "collections"}

# the functions and classes of the interface, by the file that defines them
INTERFACE = {
    "errors.py": """MootError InvalidDeed InvalidHistory InvalidClock InvalidNumber InvalidText Misfit Unlike NoBlock NoSign
        NotAllowed Undefined""",
    "clocks.py": "is_clock joined met is_within order_of",
    "deeds.py": "is_act is_deed id_of",
    "deedtext.py": "deed_text read_deed",
    "histories.py": "is_history history_of clock_of time_of past_of is_cut part united fits",
    "rights.py": "is_barred is_settled is_late is_undone counts why_not final",
    "signs.py": "row_of shut_signs passed_signs let_go_signs open_row parent_of order_paper order_holds",
    "rows.py": "shown_signs block_text letter_of place_of sign_at",
    "blocks.py": "children_of parent_block is_dropped vain_moves shown_blocks",
    "marks.py": "winner marks_at runs_of",
    "notes.py": "notes_of",
    "documents.py": "document document_text document_at cuts_of changes who_typed",
    "desks.py": "Desk",
    "nets.py": "Net",
    "snapshots.py": "base_clock rest_of snapshot desk_of desk_snapshot kept_signs",
    "seals.py": "chain_of seal_of first_apart asked_places",
    "logs.py": "Log replayed",
}

# the parameters of its functions, by what they are; those of errors are told in test_errors
PARAMETERS = {
    "value": "is_clock is_act is_deed is_history",
    "a b": "joined met is_within order_of",
    "deed": "id_of deed_text",
    "text": "read_deed",
    "text hand": "desk_of",
    "deeds": "history_of",
    "desk": "desk_snapshot kept_signs",
    "chain other": "first_apart asked_places",
    "lines": "replayed",
    "history": "clock_of vain_moves shown_blocks document document_text cuts_of base_clock rest_of snapshot seal_of",
    "history hand": "chain_of",
    "history deed_id": "time_of past_of is_barred is_settled is_late is_undone counts why_not final",
    "history clock": "is_cut part document_at",
    "history clock other": "changes",
    "history other": "united",
    "history deed": "fits",
    "history block": """row_of shut_signs passed_signs let_go_signs open_row shown_signs block_text children_of parent_block
        is_dropped runs_of notes_of who_typed""",
    "history sign": "parent_of letter_of place_of marks_at",
    "history x y": "order_paper",
    "history x y paper": "order_holds",
    "history block at": "sign_at",
    "history sign name": "winner",
}

# the methods of its classes, by their parameters
METHODS = {
    ("desks.py", "Desk"): {
        "hand": "__init__ bar let",
        "": "clock document deeds waiting settle say",
        "block": "text drop",
        "deed": "take",
        "clock": "lacking",
        "block at text": "write",
        "block at many": "erase",
        "block at many name worth": "mark",
        "block at many text": "note",
        "parent behind": "block",
        "block parent behind": "move",
        "n": "undo redo",
    },
    ("nets.py", "Net"): {
        "hand": "desk",
        "desk": "seat",
        "deed": "post",
        "": "__init__ messages unite is_calm",
        "k": "deliver double lose put_off",
        "parts": "divide",
        "a b": "meet",
    },
    ("logs.py", "Log"): {"": "__init__", "line": "run"},
}


def sources():
    return [path for path in sorted(PACKAGE.rglob("*.py")) if "__pycache__" not in path.parts]


def nodes(path, *kinds):
    return [node for node in ast.walk(ast.parse(path.read_text("utf-8"))) if isinstance(node, kinds)]


class Language(unittest.TestCase):
    def test_only_python_files_with_plain_names(self):
        for path in PACKAGE.rglob("*"):
            if "__pycache__" not in path.parts and not path.is_dir():
                self.assertRegex(path.name, r"\A[a-z0-9_]+\.py\Z")
        self.assertTrue((PACKAGE / "__init__.py").is_file())

    def test_plain_characters(self):
        for path in sources():
            signs = set(path.read_bytes())
            self.assertLessEqual(signs, set(range(32, 127)) | {10}, path.name)

    def test_sizes(self):
        for path in sources():
            lines = path.read_text("utf-8").splitlines()
            self.assertLessEqual(len(lines), 399, path.name)
            self.assertLessEqual(max(map(len, lines)), 120, path.name)
            for node in nodes(path, ast.FunctionDef):
                self.assertLessEqual(node.end_lineno - node.lineno + 1, 40, node.name)

    def test_imports(self):
        names = {path.stem for path in sources()}
        for path in sources():
            for node in nodes(path, ast.Import, ast.ImportFrom):
                self.assertIsInstance(node, ast.ImportFrom, path.name)
                self.assertEqual(node.level, 0, path.name)
                home, _, inner = node.module.partition(".")
                if home == "quillmoot":
                    self.assertIn(inner, names)
                else:
                    self.assertIn(node.module, LIBRARY, path.name)

    def test_no_two_files_import_from_each_other(self):
        needs = {}
        for path in sources():
            modules = [node.module for node in nodes(path, ast.ImportFrom)]
            needs[path.stem] = [module.partition(".")[2] for module in modules if module.startswith("quillmoot.")]
        while needs:
            free = [name for name, others in needs.items() if not any(other in needs for other in others)]
            self.assertTrue(free, "these import from each other: " + " ".join(needs))
            needs = {name: others for name, others in needs.items() if name not in free}

    def test_builtins(self):
        for path in sources():
            for node in nodes(path, ast.Name):
                if hasattr(builtins, node.id):
                    self.assertIn(node.id, BUILTINS, path.name)

    def test_names_are_not_those_of_builtins_or_imports(self):
        for path in sources():
            imported = {name.name for node in nodes(path, ast.ImportFrom) for name in node.names}
            bound = [node.id for node in nodes(path, ast.Name) if isinstance(node.ctx, ast.Store)]
            bound += [node.arg for node in nodes(path, ast.arg)]
            for name in bound:
                self.assertNotIn(name, TAKEN, path.name)
                self.assertNotIn(name, imported, path.name)
            for node in nodes(path, ast.FunctionDef, ast.ClassDef):
                self.assertNotIn(node.name, TAKEN, path.name)
                self.assertNotIn(node.name, imported, path.name)

    def test_imports_name_the_file_that_defines_the_name(self):
        for path in sources():
            used = {node.id for node in nodes(path, ast.Name)}
            for node in nodes(path, ast.ImportFrom):
                if node.module.startswith("quillmoot."):
                    body = ast.parse((PACKAGE / (node.module.partition(".")[2] + ".py")).read_text("utf-8")).body
                    defined = {inner.name for inner in body if isinstance(inner, (ast.FunctionDef, ast.ClassDef))}
                    defined |= {inner.targets[0].id for inner in body if isinstance(inner, ast.Assign)}
                    for name in node.names:
                        self.assertIn(name.name, defined, path.name)
                        self.assertIn(name.name, used, path.name)

    def test_attributes_are_no_methods_of_builtin_values(self):
        free = {"count", "index", "title", "find", "get", "join", "lower", "upper", "split", "strip", "copy", "add"}
        taken = {name for kind in (str, int, list, dict, set, bytes, tuple) for name in dir(kind)} - free
        for path in sources():
            for node in nodes(path, ast.Attribute):
                if isinstance(node.ctx, ast.Store):
                    self.assertNotIn(node.attr, taken, path.name)

    def test_methods_and_attributes_of_one_class_have_unlike_names(self):
        for path in sources():
            for node in nodes(path, ast.ClassDef):
                methods = {inner.name for inner in node.body if isinstance(inner, ast.FunctionDef)}
                stored = {inner.attr for inner in ast.walk(node) if isinstance(inner, ast.Attribute)
                          and isinstance(inner.ctx, ast.Store)}
                self.assertEqual(methods & stored, set(), (path.name, node.name))

    def test_no_sets_and_no_deep_calls(self):
        # the package needs no set; and that no function calls itself, so that no call goes as deep as a row is long
        for path in sources():
            self.assertEqual(nodes(path, ast.Set, ast.SetComp, ast.GeneratorExp, ast.Lambda), [], path.name)
            for node in nodes(path, ast.FunctionDef):
                called = {inner.func.id for inner in ast.walk(node) if isinstance(inner, ast.Call)
                          and isinstance(inner.func, ast.Name)}
                called |= {inner.func.attr for inner in ast.walk(node) if isinstance(inner, ast.Call)
                           and isinstance(inner.func, ast.Attribute) and isinstance(inner.func.value, ast.Name)
                           and inner.func.value.id == "self"}
                self.assertNotIn(node.name, called, path.name)

    def test_statements_and_values_outside_the_language(self):
        barred = (ast.Global, ast.AsyncFunctionDef, ast.AsyncFor, ast.AsyncWith, ast.Await, ast.Div)
        for path in sources():
            self.assertEqual(nodes(path, *barred), [], path.name)
            for node in nodes(path, ast.Constant):
                self.assertNotIsInstance(node.value, (float, complex), path.name)
                if isinstance(node.value, str):
                    self.assertNotIn("%", node.value, path.name)

    def test_module_level(self):
        plain = (ast.Import, ast.ImportFrom, ast.FunctionDef, ast.ClassDef, ast.Assign, ast.AnnAssign)
        for path in sources():
            tree = ast.parse(path.read_text("utf-8"))
            self.assertIsNotNone(ast.get_docstring(tree), path.name)
            for node in tree.body[1:]:
                self.assertIsInstance(node, plain, path.name)


class Interface(unittest.TestCase):
    def test_each_name_is_defined_in_its_file(self):
        for name, words in INTERFACE.items():
            body = ast.parse((PACKAGE / name).read_text("utf-8")).body
            defined = {node.name for node in body if isinstance(node, (ast.FunctionDef, ast.ClassDef))}
            with self.subTest(file=name):
                self.assertLessEqual(set(words.split()), defined)

    def test_parameters(self):
        told = {name: params for params, names in PARAMETERS.items() for name in names.split()}
        for file, words in INTERFACE.items():
            for node in ast.parse((PACKAGE / file).read_text("utf-8")).body:
                if isinstance(node, ast.FunctionDef) and node.name in words.split():
                    with self.subTest(name=node.name):
                        self.assertEqual(" ".join(param.arg for param in node.args.args), told.pop(node.name))
                        self.assertEqual(node.args.defaults, [])
        self.assertEqual(told, {})

    def test_methods_stand_in_the_class_itself(self):
        for (file, name), methods in METHODS.items():
            body = ast.parse((PACKAGE / file).read_text("utf-8")).body
            found = [node for node in body if isinstance(node, ast.ClassDef) and node.name == name]
            own = {node.name: node.args for node in found[0].body if isinstance(node, ast.FunctionDef)}
            for params, names in methods.items():
                for method in names.split():
                    with self.subTest(name=name, method=method):
                        self.assertEqual([param.arg for param in own[method].args], ["self"] + params.split())
                        self.assertEqual(own[method].defaults, [])


if __name__ == "__main__":
    unittest.main()
