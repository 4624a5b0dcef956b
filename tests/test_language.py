"""That the package keeps to those rules of its small language that a look at the code can tell."""

import ast
import builtins
import pathlib
import unittest

FOLDER = pathlib.Path(__file__).resolve().parent.parent / "sceneskips"
FILES = sorted(FOLDER.glob("**/*.py"))
BUILTINS = set("""len range enumerate zip min max sum abs sorted reversed int str bool list tuple dict set isinstance
ord repr any all divmod property Exception ValueError TypeError KeyError IndexError LookupError ZeroDivisionError
NotImplemented NotImplementedError""".split())
METHODS = set("""append clear copy count endswith extend find get index insert isalnum isalpha isdigit islower isspace
isupper items join keys ljust lower lstrip partition pop remove replace reverse rfind rjust rpartition rsplit rstrip
setdefault split splitlines startswith strip update upper values zfill bit_length add discard""".split())
SPECIAL = set("""__init__ __eq__ __len__ __iter__ __call__ __lt__ __le__ __gt__ __ge__ __add__ __iadd__ __sub__ __and__
__rshift__ __contains__ __getitem__ __setitem__""".split())
BARRED = set("""register mro elements open input law version_info type typing enum dataclass eval exec globals locals
vars id dir compile super getattr setattr hasattr delattr print help exit quit os sys gc""".split())
NODES_BARRED = (ast.Global, ast.Nonlocal, ast.AsyncFunctionDef, ast.Await, ast.Yield, ast.YieldFrom, ast.GeneratorExp,
                ast.Div, ast.Pow, ast.Import, ast.With, ast.NamedExpr, ast.AugAssign, ast.AnnAssign)


def trees():
    return [(path, ast.parse(path.read_text())) for path in FILES]


def functions(tree):
    return [node for node in ast.walk(tree) if isinstance(node, ast.FunctionDef)]


def bound_names(tree):
    """All names that the file binds, parameters included."""
    names = {node.id for node in ast.walk(tree) if isinstance(node, ast.Name) and isinstance(node.ctx, ast.Store)}
    names |= {node.arg for node in ast.walk(tree) if isinstance(node, ast.arg)}
    names |= {node.name for node in ast.walk(tree) if isinstance(node, (ast.FunctionDef, ast.ClassDef))}
    names |= {alias.name for node in ast.walk(tree) if isinstance(node, ast.ImportFrom) for alias in node.names}
    return names


def called(node):
    return node.func.id if isinstance(node, ast.Call) and isinstance(node.func, ast.Name) else None


def properties(tree):
    """The functions that stand below @property."""
    return [node for node in functions(tree) if node.decorator_list]


def imported(tree):
    """Tuples (module, name) for all imports of the file."""
    return [(node.module, alias.name) for node in tree.body if isinstance(node, ast.ImportFrom) for alias in node.names]


class LanguageTest(unittest.TestCase):

    def test_files(self):
        self.assertIn(FOLDER / "__init__.py", FILES)
        others = [path for path in FOLDER.iterdir() if path not in FILES and path.name != "__pycache__"]
        self.assertEqual(others, [])

    def test_characters_and_sizes(self):
        for path, tree in trees():
            text = path.read_text()
            self.assertTrue(all(c == "\n" or " " <= c <= "~" for c in text), path)
            self.assertLessEqual(len(text.splitlines()), 399, path)
            for line in text.splitlines():
                self.assertLessEqual(len(line), 120, (path, line))
            for function in functions(tree):
                self.assertLessEqual(function.end_lineno - function.lineno + 1, 40, (path, function.name))

    def test_imports(self):
        for path, tree in trees():
            for node in ast.walk(tree):
                if isinstance(node, ast.ImportFrom):
                    self.assertEqual(node.level, 0)
                    self.assertTrue(node.module.startswith("sceneskips."), (path, node.module))
                    file = FOLDER.parent / (node.module.replace(".", "/") + ".py")
                    defined = ast.parse(file.read_text()).body
                    names = {n.name for n in defined if isinstance(n, (ast.FunctionDef, ast.ClassDef))}
                    names |= {n.targets[0].id for n in defined if isinstance(n, ast.Assign)}
                    for alias in node.names:
                        self.assertIsNone(alias.asname)
                        self.assertIn(alias.name, names, path)

    def test_no_files_import_from_each_other(self):
        needs = {path.stem: {module.split(".")[1] for module, name in imported(tree)} for path, tree in trees()}
        left = dict(needs)
        while left:
            free = [stem for stem in left if not needs[stem] & set(left)]
            self.assertNotEqual(free, [], left)
            for stem in free:
                del left[stem]

    def test_imports_are_used_and_not_hidden(self):
        for path, tree in trees():
            taken = {name for module, name in imported(tree)} | {n.name for n in tree.body if isinstance(n,
                                                                                                         ast.ClassDef)}
            inner = {node.arg for node in ast.walk(tree) if isinstance(node, ast.arg)}
            inner |= {node.id for node in ast.walk(tree) if isinstance(node,
                                                                       ast.Name) and isinstance(node.ctx, ast.Store)}
            self.assertEqual(taken & inner, set(), path)
            read = {node.id for node in ast.walk(tree) if isinstance(node, ast.Name) and isinstance(node.ctx, ast.Load)}
            self.assertEqual({name for module, name in imported(tree)} - read, set(), path)

    def test_module_level(self):
        for path, tree in trees():
            bound = [node.targets[0].id for node in tree.body if isinstance(node, ast.Assign)]
            self.assertEqual(len(bound), len(set(bound)), path)
            for node in tree.body:
                self.assertIsInstance(node, (ast.Expr, ast.ImportFrom, ast.Assign, ast.FunctionDef, ast.ClassDef), path)
                if isinstance(node, ast.Assign):
                    inner = [child for value in ast.iter_child_nodes(node.value) for child in ast.walk(value)]
                    self.assertFalse(any(isinstance(child, (ast.List, ast.Dict, ast.Call)) for child in inner), path)

    def test_properties(self):
        names = {function.name for path, tree in trees() for function in properties(tree)}
        plain = {function.name for path, tree in trees() for function in functions(tree) if not function.decorator_list}
        self.assertEqual(names & plain, set())
        for path, tree in trees():
            for function in properties(tree):
                self.assertEqual([ast.unparse(item) for item in function.decorator_list], ["property"])
                self.assertFalse(any(isinstance(node, ast.Assign) for node in ast.walk(function)),
                                 (path, function.name))
            for node in ast.walk(tree):
                if isinstance(node, ast.Attribute) and isinstance(node.ctx, ast.Store):
                    self.assertNotIn(node.attr, names, path)
                if isinstance(node, ast.Name) and node.id == "property":
                    self.assertTrue(any(node in function.decorator_list for function in properties(tree)), path)

    def test_no_name_is_a_method_and_an_attribute(self):
        methods = {node.name for path, tree in trees() for one in ast.walk(tree) if isinstance(one, ast.ClassDef)
                   for node in one.body if isinstance(node, ast.FunctionDef)}
        for path, tree in trees():
            for node in ast.walk(tree):
                if isinstance(node, ast.Attribute) and isinstance(node.ctx, ast.Store):
                    self.assertNotIn(node.attr, methods, path)

    def test_interface(self):
        # What the document lists stands in this very file and in this very class.
        for file, found in {
            "plays": ["Play", "Play.__init__", "Play.state", "Play.question", "Play.shown", "Play.answers",
                      "Play.notes",
                      "Play.__len__", "Play.answer", "Play.back", "resumed"],
            "ways": ["Way", "Way.pattern", "Way.change", "Way.answers", "Way.shown", "Way.end", "Way.__call__", "ways",
                     "outcomes"],
            "checks": ["wrong_notes", "table", "is_table", "loose_notes"],
            "whole": ["wrong_play", "bad_play", "twin"],
            "least": ["fewest_rows"],
            "alike": ["parting"],
            "texts": ["show_story", "read_story"],
            "desk": ["Desk", "Desk.__init__", "Desk.execute"],
        }.items():
            body = ast.parse((FOLDER / (file + ".py")).read_text()).body
            names = {node.name for node in body if isinstance(node, (ast.FunctionDef, ast.ClassDef))}
            names |= {f"{node.name}.{inner.name}" for node in body if isinstance(node, ast.ClassDef)
                      for inner in node.body if isinstance(inner, ast.FunctionDef)}
            self.assertEqual([name for name in found if name not in names], [])

    def test_statements_and_names(self):
        for path, tree in trees():
            bound = bound_names(tree)
            for node in ast.walk(tree):
                self.assertNotIsInstance(node, NODES_BARRED, (path, getattr(node, "lineno", 0)))
                if isinstance(node, ast.Name):
                    self.assertNotIn(node.id, BARRED, path)
                    self.assertIn(node.id, bound | BUILTINS, path)
                if isinstance(node, ast.Constant) and isinstance(node.value, str):
                    self.assertNotIn("%", node.value, path)
                if isinstance(node, ast.Constant):
                    self.assertNotIsInstance(node.value, (float, complex), path)
            for name in bound:
                self.assertNotIn(name, BARRED, path)
                if name.startswith("__"):
                    self.assertIn(name, SPECIAL, path)
                else:
                    self.assertFalse(hasattr(builtins, name), (path, name))

    def test_methods(self):
        own = {function.name for path, tree in trees() for function in functions(tree)}
        stored = {node.attr for path, tree in trees() for node in ast.walk(tree)
                  if isinstance(node, ast.Attribute) and isinstance(node.ctx, ast.Store)}
        for path, tree in trees():
            for node in ast.walk(tree):
                if isinstance(node, ast.Attribute):
                    self.assertTrue(node.attr in own | stored | METHODS, (path, node.lineno, node.attr))

    def test_sorted_takes_plain_strings_or_integers(self):
        # Patterns are ordered only in part, so nothing else may be sorted, nor asked for its least.
        for path, tree in trees():
            for node in ast.walk(tree):
                if called(node) == "sorted":
                    self.assertIsInstance(node.args[0], ast.ListComp, path)
                    self.assertIn(called(node.args[0].elt), ["str", "int"], path)


if __name__ == "__main__":
    unittest.main()
