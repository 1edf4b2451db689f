"""The package's files keep to a small part of Python: the rules that a reading of the files can tell."""

import ast
import builtins
import pathlib
import re
import unittest

FOLDER = pathlib.Path(__file__).resolve().parent.parent / "panethread"

OWN_NAMES = set("""len range enumerate zip min max sum abs sorted reversed int str bool list tuple dict set frozenset
    isinstance ord repr any all divmod Exception ValueError TypeError KeyError IndexError LookupError ZeroDivisionError
    ArithmeticError OverflowError RuntimeError NotImplementedError AttributeError StopIteration object""".split())
OWN_METHODS = set("""append clear copy count endswith extend find get index insert isalnum isalpha isdigit islower
    isspace isupper items join keys ljust lower lstrip partition pop remove replace reverse rfind rjust rpartition
    rsplit rstrip setdefault split splitlines startswith strip update upper values zfill bit_length""".split())
TWO_UNDERSCORES = {"__init__", "__eq__", "__repr__", "__str__", "__len__"}
WORDS = re.compile(r"\b(type|typing|typing_extensions|enum|Enum|IntEnum|StrEnum|Flag|IntFlag|Generic|Protocol|ABC|"
                   r"ABCMeta|namedtuple|NamedTuple|TypedDict|TYPE_CHECKING|abstractmethod)\b|"
                   r"dataclass|overload|contextmanager")
OUT = (ast.With, ast.AsyncWith, ast.Match, ast.Delete, ast.Global, ast.Nonlocal, ast.Assert, ast.Yield, ast.YieldFrom,
       ast.Await, ast.AsyncFor, ast.AsyncFunctionDef, ast.SetComp, ast.DictComp, ast.GeneratorExp, ast.NamedExpr,
       ast.Starred, ast.Div, ast.MatMult, ast.Import)


def files():
    return sorted(path for path in FOLDER.iterdir() if path.name != "__pycache__")


def trees():
    return [(path, ast.parse(path.read_text(encoding="utf-8"))) for path in files()]


def nodes(kind):
    return [(path.name, node) for path, tree in trees() for node in ast.walk(tree) if isinstance(node, kind)]


def parameters(function):
    return [one.arg for one in function.args.posonlyargs + function.args.args + function.args.kwonlyargs]


def locals_of(function):
    stored = [node.id for node in ast.walk(function) if isinstance(node, ast.Name) and isinstance(node.ctx, ast.Store)]
    return parameters(function) + stored


class Language(unittest.TestCase):
    def test_files(self):
        self.assertIn("__init__.py", [path.name for path in files()])
        for path in files():
            self.assertRegex(path.name, r"\A[a-z0-9_]+\.py\Z")

    def test_signs_and_sizes(self):
        for path in files():
            text = path.read_text(encoding="utf-8")
            self.assertTrue(all(sign == "\n" or " " <= sign <= "~" for sign in text), path.name)
            self.assertLessEqual(len(text.splitlines()), 400, path.name)
            self.assertLessEqual(max([len(line) for line in text.splitlines()], default=0), 120, path.name)
            self.assertIsNone(WORDS.search(text), path.name)
        for name, node in nodes(ast.FunctionDef):
            self.assertLessEqual(node.end_lineno - node.lineno + 1, 40, (name, node.name))

    def test_the_top_of_each_file(self):
        for path, tree in trees():
            for place, node in enumerate(tree.body):
                docstring = place == 0 and isinstance(node, ast.Expr) and isinstance(node.value, ast.Constant)
                kinds = (ast.ImportFrom, ast.FunctionDef, ast.ClassDef, ast.Assign)
                self.assertTrue(docstring or isinstance(node, kinds), (path.name, node.lineno))

    def test_imports(self):
        drawn = {}
        for path, tree in trees():
            drawn[path.stem] = []
            for node in tree.body:
                if isinstance(node, ast.ImportFrom) and node.module != "__future__":
                    self.assertEqual(node.level, 0, path.name)
                    self.assertRegex(node.module, r"\Apanethread\.[a-z0-9_]+\Z")
                    self.assertNotIn("*", [name.name for name in node.names])
                    drawn[path.stem].append(node.module.split(".")[1])
        self.assertEqual(drawn["__init__"], [])
        settled = []
        while len(settled) < len(drawn):
            ready = [name for name in drawn if name not in settled and set(drawn[name]) <= set(settled)]
            self.assertTrue(ready, "files that draw from one another")
            settled.extend(ready)

    def test_names_come_from_the_file_that_binds_them(self):
        bound = {}
        for path, tree in trees():
            defined = [node.name for node in tree.body if isinstance(node, (ast.FunctionDef, ast.ClassDef))]
            given = [node.targets[0].id for node in tree.body if isinstance(node, ast.Assign)]
            bound[path.stem] = defined + given
            self.assertEqual(len(set(bound[path.stem])), len(bound[path.stem]), path.name)
        for name, node in nodes(ast.ImportFrom):
            for part in node.names:
                self.assertIn(part.name, bound[node.module.split(".")[1]], (name, part.name))
                self.assertIsNone(part.asname, (name, part.name))

    def test_values_at_the_top(self):
        for path, tree in trees():
            above = []
            for node in tree.body:
                if isinstance(node, ast.FunctionDef):
                    above.append(node.name)
                if not isinstance(node, ast.Assign):
                    continue
                inner = [part for part in ast.walk(node.value) if part is not node.value]
                self.assertFalse([part for part in inner if isinstance(part, (ast.List, ast.Dict))], (path.name, node.lineno))
                for part in ast.walk(node.value):
                    self.assertIsInstance(part, (ast.Constant, ast.List, ast.Tuple, ast.Dict, ast.Name, ast.Load), path.name)
                    self.assertTrue(not isinstance(part, ast.Name) or part.id in above, (path.name, node.lineno))

    def test_errors_and_sets(self):
        own = {node.name for name, node in nodes(ast.ClassDef) if name == "errors.py"}
        for name, node in nodes(ast.ExceptHandler):
            self.assertIn(node.type.id, own, (name, node.lineno))
        for name, node in nodes(ast.Raise):
            self.assertIsInstance(node.exc, ast.Call, (name, node.lineno))
            self.assertIn(node.exc.func.id, own, (name, node.lineno))
        for name, node in nodes((ast.Set, ast.Call)):
            called = getattr(getattr(node, "func", None), "id", "")
            self.assertFalse(isinstance(node, ast.Set) or called in ("set", "frozenset"), (name, node.lineno))

    def test_statements_and_values(self):
        for name, node in nodes(OUT):
            self.fail((name, getattr(node, "lineno", None), node))
        for name, node in nodes(ast.Assign):
            self.assertEqual(len(node.targets), 1, (name, node.lineno))
        for name, node in nodes((ast.For, ast.While)):
            self.assertEqual(node.orelse, [], (name, node.lineno))
        for name, node in nodes(ast.Try):
            self.assertEqual(node.finalbody, [], (name, node.lineno))
        for name, node in nodes(ast.ListComp):
            self.assertEqual(len(node.generators), 1, (name, node.lineno))
            self.assertLessEqual(len(node.generators[0].ifs), 1, (name, node.lineno))
        for name, node in nodes(ast.Constant):
            self.assertNotIsInstance(node.value, (float, bytes, complex), (name, node.lineno))
            self.assertFalse(isinstance(node.value, str) and "%" in node.value, (name, node.lineno))
        for name, node in nodes(ast.Compare):
            if any(isinstance(sign, (ast.Is, ast.IsNot)) for sign in node.ops):
                self.assertIsInstance(node.comparators[0], ast.Constant, (name, node.lineno))

    def test_functions_and_classes(self):
        for name, node in nodes((ast.FunctionDef, ast.ClassDef)):
            self.assertEqual(node.decorator_list, [], (name, node.name))
        for name, node in nodes((ast.FunctionDef, ast.Lambda)):
            self.assertIsNone(node.args.vararg, (name, node.lineno))
            self.assertIsNone(node.args.kwarg, (name, node.lineno))
            self.assertEqual(node.args.kwonlyargs, [], (name, node.lineno))
        for name, node in nodes(ast.ClassDef):
            self.assertLessEqual(len(node.bases), 1, (name, node.name))
            self.assertFalse([part for part in node.body if isinstance(part, (ast.Assign, ast.AnnAssign))], node.name)

    def test_names(self):
        for name, node in nodes((ast.Name, ast.arg, ast.Attribute, ast.FunctionDef, ast.ClassDef)):
            word = [getattr(node, field) for field in ("id", "arg", "attr", "name") if hasattr(node, field)][0]
            self.assertTrue(word in TWO_UNDERSCORES or not word.startswith("_"), (name, word))
            self.assertTrue(word.isascii(), (name, word))
        for name, node in nodes(ast.Name):
            self.assertTrue(node.id in OWN_NAMES or not hasattr(builtins, node.id), (name, node.id))
        for path, tree in trees():
            taken = [part.asname or part.name for node in ast.walk(tree) if isinstance(node, ast.ImportFrom)
                     for part in node.names]
            taken += [node.name for node in ast.walk(tree) if isinstance(node, ast.ClassDef)]
            for node in ast.walk(tree):
                if isinstance(node, ast.FunctionDef):
                    for word in locals_of(node):
                        self.assertFalse(word in taken or hasattr(builtins, word), (path.name, node.name, word))

    def test_methods_and_values(self):
        methods = {part.name for name, node in nodes(ast.ClassDef) for part in node.body
                   if isinstance(part, ast.FunctionDef)}
        values = {node.attr for name, node in nodes(ast.Attribute) if isinstance(node.ctx, ast.Store)}
        self.assertEqual(methods & values, set())
        for name, node in nodes(ast.Call):
            if isinstance(node.func, ast.Attribute):
                self.assertIn(node.func.attr, methods | OWN_METHODS, (name, node.lineno))


if __name__ == "__main__":
    unittest.main()
