"""What of ../shared/LANGUAGE.md can be seen in the package's files by a plain look."""

import ast
import builtins
import pathlib
import re
import unittest

import dialecthall

FOLDER = pathlib.Path(dialecthall.__file__).parent
FILES = sorted(path for path in FOLDER.iterdir() if path.name != "__pycache__")

NO_WORDS = re.compile(r"\b(type|typing|typing_extensions|enum|Enum|IntEnum|StrEnum|Flag|IntFlag|Generic|Protocol|ABC"
                      r"|ABCMeta|namedtuple|NamedTuple|TypedDict|TYPE_CHECKING|abstractmethod)\b"
                      r"|dataclass|overload|contextmanager")

NO_NODES = (ast.With, ast.Match, ast.Delete, ast.Global, ast.Nonlocal, ast.Assert, ast.Yield, ast.YieldFrom,
            ast.AsyncFunctionDef, ast.AsyncFor, ast.AsyncWith, ast.Await, ast.Import, ast.SetComp, ast.DictComp,
            ast.GeneratorExp, ast.NamedExpr, ast.Starred, ast.Div, ast.AnnAssign, ast.MatMult)

NAMES = """len range enumerate zip min max sum abs sorted reversed int str bool list tuple dict set frozenset isinstance
ord repr any all divmod Exception ValueError TypeError KeyError IndexError LookupError ZeroDivisionError
ArithmeticError OverflowError RuntimeError NotImplementedError AttributeError StopIteration""".split()

METHODS = """append clear copy count endswith extend find get index insert isalnum isalpha isdigit islower isspace
isupper items join keys ljust lower lstrip partition pop remove replace reverse rfind rjust rpartition rsplit rstrip
setdefault split splitlines startswith strip update upper values zfill bit_length add discard title""".split()

PYTHONS_OWN = {name for kind in (str, int, list, dict, set, bytes, tuple) for name in dir(kind)}
OWN_WITH_UNDERSCORES = ("__init__", "__eq__", "__repr__", "__str__", "__len__")


def nodes_of(path):
    return list(ast.walk(ast.parse(path.read_text(encoding="utf-8"))))


def parameters_of(node):
    return node.args.posonlyargs + node.args.args + node.args.kwonlyargs


class Files(unittest.TestCase):
    def test_plain_names_and_nothing_else(self):
        for path in FILES:
            self.assertRegex(path.name, r"^[a-z0-9_]+\.py$")

    def test_signs_and_size(self):
        for path in FILES:
            text = path.read_text(encoding="utf-8")
            self.assertRegex(text, r"\A[ -~\n]*\Z", path.name)
            self.assertLessEqual(len(text.splitlines()), 400, path.name)
            self.assertLessEqual(max([len(row) for row in text.splitlines()] or [0]), 120, path.name)

    def test_words_that_stand_nowhere(self):
        for path in FILES:
            self.assertIsNone(NO_WORDS.search(path.read_text(encoding="utf-8")), path.name)


class Code(unittest.TestCase):
    def each(self, kind):
        for path in FILES:
            for node in nodes_of(path):
                if isinstance(node, kind):
                    yield f"{path.name}:{getattr(node, 'lineno', 0)}", node

    def test_no_other_forms(self):
        for told, node in self.each(NO_NODES):
            self.fail(told)

    def test_imports_are_the_packages_own(self):
        for told, node in self.each(ast.ImportFrom):
            self.assertEqual(node.level, 0, told)
            self.assertTrue(node.module == "__future__" or node.module.startswith("dialecthall."), told)
            self.assertNotIn("*", [name.name for name in node.names], told)

    def test_functions(self):
        for told, node in self.each(ast.FunctionDef):
            self.assertLessEqual(node.end_lineno - node.lineno + 1, 40, told)
            self.assertEqual(node.decorator_list, [], told)
            self.assertIsNone(node.args.vararg, told)
            self.assertIsNone(node.args.kwarg, told)
            self.assertEqual(node.args.kwonlyargs, [], told)
            self.assertTrue(not node.name.startswith("_") or node.name in OWN_WITH_UNDERSCORES, told)
            for parameter in parameters_of(node):
                self.assertFalse(hasattr(builtins, parameter.arg), told)

    def test_classes(self):
        for told, node in self.each(ast.ClassDef):
            self.assertEqual(node.decorator_list, [], told)
            self.assertLessEqual(len(node.bases), 1, told)
            for row in node.body:
                self.assertIsInstance(row, (ast.FunctionDef, ast.Pass, ast.Expr), told)

    def test_statements(self):
        for told, node in self.each(ast.Assign):
            self.assertEqual(len(node.targets), 1, told)
        for told, node in self.each((ast.For, ast.While)):
            self.assertEqual(node.orelse, [], told)
        for told, node in self.each(ast.Try):
            self.assertEqual(node.finalbody, [], told)
        for told, node in self.each(ast.ListComp):
            self.assertEqual(len(node.generators), 1, told)
            self.assertLessEqual(len(node.generators[0].ifs), 1, told)

    def test_the_top_of_a_file(self):
        for path in FILES:
            above = []
            for row in ast.parse(path.read_text(encoding="utf-8")).body:
                told = f"{path.name}:{row.lineno}"
                self.assertIsInstance(row, (ast.Expr, ast.ImportFrom, ast.FunctionDef, ast.ClassDef, ast.Assign), told)
                if isinstance(row, ast.FunctionDef):
                    above.append(row.name)
                if isinstance(row, ast.Assign):
                    for node in ast.walk(row.value):
                        self.assertIsInstance(node, (ast.Constant, ast.Tuple, ast.List, ast.Dict, ast.Name, ast.Load),
                                              told)
                        if isinstance(node, ast.Name):
                            self.assertIn(node.id, above, told)
                    for node in list(ast.walk(row.value))[1:]:
                        self.assertNotIsInstance(node, (ast.List, ast.Dict), told)

    def test_each_name_once_at_the_top(self):
        for path in FILES:
            names = []
            for row in ast.parse(path.read_text(encoding="utf-8")).body:
                if isinstance(row, (ast.FunctionDef, ast.ClassDef)):
                    names.append(row.name)
                if isinstance(row, ast.Assign):
                    names += [name.id for name in row.targets]
                if isinstance(row, ast.ImportFrom):
                    names += [name.asname or name.name for name in row.names]
            self.assertEqual(sorted(set(names)), sorted(names), path.name)

    def test_values(self):
        for told, node in self.each(ast.Constant):
            self.assertNotIsInstance(node.value, (float, complex, bytes), told)
            self.assertNotIn("%", str(node.value), told)

    def test_names(self):
        for told, node in self.each(ast.Name):
            self.assertFalse(node.id.startswith("_"), told)
            if hasattr(builtins, node.id):
                self.assertIsInstance(node.ctx, ast.Load, told)
                self.assertIn(node.id, NAMES, told)

    def test_attributes(self):
        for told, node in self.each(ast.Attribute):
            if node.attr in PYTHONS_OWN:
                self.assertIn(node.attr, METHODS + ["__init__"], told)
            self.assertTrue(not node.attr.startswith("_") or node.attr == "__init__", told)

    def test_locals_are_not_called_like_imports_and_classes(self):
        for path in FILES:
            nodes = nodes_of(path)
            taken = {name.name for node in nodes if isinstance(node, ast.ImportFrom) for name in node.names}
            taken |= {node.name for node in nodes if isinstance(node, ast.ClassDef)}
            for node in nodes:
                if isinstance(node, ast.Name) and not isinstance(node.ctx, ast.Load):
                    self.assertNotIn(node.id, taken, f"{path.name}:{node.lineno}")
                if isinstance(node, ast.arg):
                    self.assertNotIn(node.arg, taken, f"{path.name}:{node.lineno}")

    def test_no_name_is_a_method_and_a_value(self):
        methods = {row.name for told, node in self.each(ast.ClassDef) for row in node.body
                   if isinstance(row, ast.FunctionDef)}
        values = {node.attr for told, node in self.each(ast.Attribute) if isinstance(node.ctx, ast.Store)}
        self.assertEqual(methods & values, set())
        self.assertEqual(values & (PYTHONS_OWN - {"count", "index", "title", "find", "get", "join", "lower", "upper",
                                                  "split", "strip", "copy", "add"}), set())

    def test_methods_are_called_where_they_stand(self):
        methods = {row.name for told, node in self.each(ast.ClassDef) for row in node.body
                   if isinstance(row, ast.FunctionDef)}
        for path in FILES:
            nodes = nodes_of(path)
            called = {id(node.func) for node in nodes if isinstance(node, ast.Call)}
            for node in nodes:
                if isinstance(node, ast.Attribute) and node.attr in methods | set(METHODS) - {"count", "index"}:
                    self.assertIn(id(node), called, f"{path.name}:{node.lineno}")

    def test_names_are_drawn_from_where_they_are_made_and_never_round_about(self):
        made, drawn = {}, {}
        for path in FILES:
            tree = ast.parse(path.read_text(encoding="utf-8"))
            made[path.stem] = {row.name for row in tree.body if isinstance(row, (ast.FunctionDef, ast.ClassDef))}
            made[path.stem] |= {name.id for row in tree.body if isinstance(row, ast.Assign) for name in row.targets}
            drawn[path.stem] = [row for row in tree.body if isinstance(row, ast.ImportFrom)]
        for stem, rows in drawn.items():
            for row in rows:
                for name in row.names:
                    self.assertIn(name.name, made[row.module.split(".")[1]], stem)
        left = {stem: {row.module.split(".")[1] for row in rows} for stem, rows in drawn.items()}
        while left:
            free = [stem for stem in left if not left[stem] & set(left)]
            self.assertNotEqual(free, [], sorted(left))
            left = {stem: left[stem] for stem in left if stem not in free}

    def test_sets_are_not_kept(self):
        for path in FILES:
            nodes = nodes_of(path)
            near = [node.args[0] for node in nodes if isinstance(node, ast.Call) and isinstance(node.func, ast.Name)
                    and node.func.id in ("sorted", "len") and node.args]
            near += [side for node in nodes if isinstance(node, ast.Compare) for side in [node.left] + node.comparators]
            for node in nodes:
                self.assertNotIsInstance(node, ast.Set, path.name)
                if isinstance(node, ast.Call) and isinstance(node.func, ast.Name) and node.func.id == "set":
                    self.assertTrue(any(node is side for side in near), f"{path.name}:{node.lineno}")

    def test_is_stands_beside_none_and_truths(self):
        for told, node in self.each(ast.Compare):
            sides = [node.left] + node.comparators
            for place, sign in enumerate(node.ops):
                if isinstance(sign, (ast.Is, ast.IsNot)):
                    plain = [side for side in sides[place:place + 2] if isinstance(side, ast.Constant)]
                    self.assertTrue(any(side.value in (None, True, False) for side in plain), told)


if __name__ == "__main__":
    unittest.main()
