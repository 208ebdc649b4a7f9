"""The files of the package keep to the subset of Python in which it is written, as far as their form shows it."""

import ast
import os
import unittest

ROOT = os.path.dirname(os.path.dirname(os.path.abspath(__file__)))
PACKAGE = os.path.join(ROOT, "pushalike")
BUILTINS = (
    "len range enumerate zip min max sum abs sorted reversed int str bool list tuple dict set isinstance ord repr any all "
    "divmod pow getattr hasattr setattr iter next map super property staticmethod classmethod NotImplemented Exception "
    "ValueError TypeError KeyError IndexError LookupError ZeroDivisionError ArithmeticError OverflowError RuntimeError "
    "NotImplementedError AttributeError StopIteration"
).split()
LIBRARY = ("heapq", "math", "itertools", "collections")
METHODS = ("__init__ __eq__ __ne__ __repr__ __str__ __len__ __enter__ __exit__ __call__ __iter__ __contains__ __getitem__ __setitem__ "
           "__add__ __and__ __or__ __rshift__").split()


def sources():
    """The path and the text of each file of the package."""
    found = {}
    for folder, folders, files in os.walk(PACKAGE):
        folders[:] = sorted(name for name in folders if name != "__pycache__")
        for name in sorted(files):
            with open(os.path.join(folder, name), encoding="utf-8") as file:
                found[os.path.relpath(os.path.join(folder, name), ROOT)] = file.read()
    return found


class Language(unittest.TestCase):
    def setUp(self):
        self.texts = sources()
        self.trees = {path: ast.parse(text) for path, text in self.texts.items()}

    def nodes(self, *kinds):
        for path, tree in self.trees.items():
            for node in ast.walk(tree):
                if isinstance(node, kinds):
                    yield path, node

    def test_files(self):
        self.assertLessEqual(len(self.texts), 100)
        for path in self.texts:
            self.assertRegex(path, r"^[a-z0-9_/]+\.py$")
            self.assertIn(os.path.join(os.path.dirname(path), "__init__.py"), self.texts)
            self.assertFalse(os.path.isdir(os.path.join(ROOT, path[:-3])), path)

    def test_sizes_and_signs(self):
        for path, text in self.texts.items():
            lines = text.split("\n")
            self.assertLessEqual(len(lines), 399, path)
            for line in lines:
                self.assertLessEqual(len(line), 120, path)
                self.assertRegex(line, r"^[ -~]*$", path)
        for path, node in self.nodes(ast.FunctionDef):
            self.assertLessEqual(node.end_lineno - node.lineno + 1, 40, (path, node.name))

    def test_imports(self):
        for path, node in self.nodes(ast.Import, ast.ImportFrom):
            self.assertIsInstance(node, ast.ImportFrom, path)
            self.assertEqual(node.level, 0, path)
            if node.module not in LIBRARY:
                file = node.module.replace(".", "/") + ".py"
                defined = [item.name for item in self.trees[file].body if isinstance(item, (ast.FunctionDef, ast.ClassDef))]
                defined += [item.targets[0].id for item in self.trees[file].body if isinstance(item, ast.Assign)]
                for name in node.names:
                    self.assertIn(name.name, defined, path)
                    self.assertIsNone(name.asname, path)

    def test_modules_hold_definitions_and_plain_values(self):
        for path, tree in self.trees.items():
            for node in tree.body:
                text = isinstance(node, ast.Expr) and isinstance(node.value, ast.Constant)
                kinds = (ast.ImportFrom, ast.FunctionDef, ast.ClassDef, ast.Assign)
                self.assertTrue(text or isinstance(node, kinds), (path, node.lineno))
            names = [node.name for node in tree.body if isinstance(node, (ast.FunctionDef, ast.ClassDef))]
            self.assertEqual(len(names), len(set(names)), path)

    def test_nothing_that_is_left_out(self):
        for path, node in self.nodes(ast.AsyncFunctionDef, ast.AsyncFor, ast.AsyncWith, ast.Await, ast.Div):
            self.fail((path, node))
        for path, node in self.nodes(ast.Constant):
            self.assertNotIsInstance(node.value, (float, complex), path)
            if isinstance(node.value, str):
                self.assertNotIn("%", node.value, path)

    def test_builtins(self):
        known = dir(__builtins__) if not isinstance(__builtins__, dict) else list(__builtins__)
        for path, node in self.nodes(ast.Name):
            if node.id in known:
                self.assertIn(node.id, BUILTINS, (path, node.lineno))
                self.assertIsInstance(node.ctx, ast.Load, (path, node.lineno))
        for path, node in self.nodes(ast.arg):
            self.assertNotIn(node.arg, known, path)

    def test_methods_with_double_underscores(self):
        for path, node in self.nodes(ast.FunctionDef):
            if node.name.startswith("__"):
                self.assertIn(node.name, METHODS, path)

    def test_names_that_are_not_used(self):
        for path, node in self.nodes(ast.Name, ast.Attribute, ast.arg, ast.FunctionDef, ast.ClassDef, ast.keyword):
            for field in ("id", "attr", "arg", "name"):
                self.assertNotIn(getattr(node, field, None), ("mro", "elements", "open", "input", "law", "register", "add_note"), path)


class Interface(unittest.TestCase):
    """Each name of the interface is defined in its own file, each method in its own class."""

    EXPECTED = {
        "errors.py": (
            "PushError InvalidLayout InvalidTape InvalidPipeline InvalidState InvalidBounds InvalidStand InvalidPaper InvalidChain "
            "InvalidOperation ParseError UnknownName UnknownIndex NothingToUndo TooMany InvalidNumber"
        ),
        "base/words.py": "is_letter is_name is_layout is_event is_output is_list",
        "base/tapes.py": "Tape",
        "tree/pipelines.py": "is_tree Pipeline",
        "tree/texts.py": "write_tree write_pipeline read_tree read_pipeline",
        "run/states.py": "is_state begin event due_in waited moment",
        "run/readings.py": "MAX_CAUSES read difference",
        "run/live.py": "Live",
        "joint/bounds.py": "Bounds",
        "joint/stands.py": "Pair",
        "joint/papers.py": "find_paper is_paper are_alike turned hastened",
        "joint/monitors.py": "Monitor Watch observe keeps",
        "use/wishes.py": "no_letter apart at_most single lively answered Book",
        "use/parts.py": "closed_paths lifted replace_part needless hand_over exchange",
        "use/chains.py": "Chain trim",
        "text/papers.py": "write_paper read_paper",
        "text/shell.py": "SHELL_LIMIT Shell",
    }
    METHODS = {
        "Tape": "events last __len__ __getitem__ stamps __add__ __rshift__ upto changed fits __eq__ __str__",
        "Live": (
            "pipeline now state tape told __len__ push __call__ wait undo redo trial tried twin __eq__ __str__"
        ),
        "Bounds": "zero rows __len__ __contains__ least __and__ within cut __rshift__ risen moved __eq__ __str__",
        "Pair": "left right layout is_stand begin stand has ways follow within parted __eq__ __str__",
        "Monitor": "of tree width sources clocks told __len__ __eq__ __str__",
        "Watch": "left right layout is_stand begin stand has ways follow within parted __eq__ __str__",
        "Book": "put __setitem__ __getitem__ __contains__ __len__ names kept",
        "Chain": "of layout start goal steps __len__ __getitem__ step __add__ back __eq__ __str__",
        "Shell": "__call__ run",
        "Pipeline": (
            "of source never one after every tree width sources clocks __len__ __add__ __and__ __or__ at until or_else only pick fold "
            "first changes pairs quiet spaced late again __rshift__ busy part paths __contains__ replaced __eq__ __str__"
        ),
    }

    def test_names(self):
        texts = sources()
        for path, names in self.EXPECTED.items():
            tree = ast.parse(texts["pushalike/" + path])
            defined = {node.name: node for node in tree.body if isinstance(node, (ast.FunctionDef, ast.ClassDef))}
            defined.update({node.targets[0].id: node for node in tree.body if isinstance(node, ast.Assign)})
            for name in names.split():
                self.assertIn(name, defined)
                for method in self.METHODS.get(name, "").split():
                    self.assertIn(method, [node.name for node in defined[name].body if isinstance(node, ast.FunctionDef)])
