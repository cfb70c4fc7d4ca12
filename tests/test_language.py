"""The package's files against those rules of its language that can be seen in the code alone."""

import ast
import builtins
import pathlib
import re
import unittest

PACKAGE = pathlib.Path(__file__).resolve().parent.parent / "fillsay"

OWN_NAMES = """len range enumerate zip min max sum abs sorted reversed int str bool list tuple dict set frozenset
isinstance ord repr any all divmod Exception ValueError TypeError KeyError IndexError LookupError ZeroDivisionError
ArithmeticError OverflowError RuntimeError NotImplementedError AttributeError StopIteration""".split()
METHODS = """append clear copy count endswith extend find get index insert isalnum isalpha isdigit islower isspace
isupper items join keys ljust lower lstrip partition pop remove replace reverse rfind rjust rpartition rsplit rstrip
setdefault split splitlines startswith strip update upper values zfill bit_length""".split()
DUNDERS = ("__init__", "__eq__", "__repr__", "__str__", "__len__")
WORDS = """type typing typing_extensions enum Enum IntEnum StrEnum Flag IntFlag Generic Protocol ABC ABCMeta
namedtuple NamedTuple TypedDict TYPE_CHECKING abstractmethod""".split()
PARTS = ("dataclass", "overload", "contextmanager")
TOP = (ast.ImportFrom, ast.FunctionDef, ast.ClassDef, ast.Assign)
STATEMENTS = (ast.Assign, ast.AugAssign, ast.If, ast.While, ast.For, ast.Return, ast.Break, ast.Continue, ast.Pass,
              ast.Raise, ast.Try, ast.Expr, ast.FunctionDef, ast.ClassDef, ast.ImportFrom)
RULED_OUT = (ast.NamedExpr, ast.SetComp, ast.DictComp, ast.GeneratorExp, ast.Starred, ast.Div, ast.MatMult,
             ast.Yield, ast.YieldFrom, ast.Await)


def sources():
    return sorted(PACKAGE.rglob("*.py"))


def trees():
    return [(path.name, ast.parse(path.read_text(encoding="utf-8"))) for path in sources()]


def nodes():
    return [(name, node) for name, tree in trees() for node in ast.walk(tree)]


def of_kind(kind):
    return [(name, node) for name, node in nodes() if isinstance(node, kind)]


def bound_at_top(tree):
    made = [row.name for row in tree.body if isinstance(row, (ast.FunctionDef, ast.ClassDef))]
    return made + [target.id for row in tree.body if isinstance(row, ast.Assign) for target in row.targets]


class Language(unittest.TestCase):

    def told(self, rule, name, node):
        return rule + " " + name + ":" + str(getattr(node, "lineno", 0))

    def test_files_and_signs(self):
        for path in PACKAGE.rglob("*"):
            if "__pycache__" in path.parts:
                continue
            self.assertTrue(re.fullmatch("[a-z0-9_]+[.]py", path.name), path)
            text = path.read_bytes().decode("ascii")
            self.assertTrue(all(sign == "\n" or " " <= sign <= "~" for sign in text), path)
            rows = text.split("\n")
            self.assertLessEqual(len(rows), 401, path)
            self.assertTrue(all(len(row) <= 120 for row in rows), path)
            for word in re.findall("[A-Za-z0-9_]+", text):
                self.assertNotIn(word, WORDS, path)
                self.assertFalse([part for part in PARTS if part in word], path)

    def test_top_and_imports(self):
        for name, tree in trees():
            rows = tree.body[1:] if ast.get_docstring(tree) is not None else tree.body
            for row in rows:
                self.assertIsInstance(row, TOP, self.told("L3", name, row))
        for name, node in of_kind(ast.ImportFrom):
            self.assertTrue(node.module.startswith("fillsay.") and node.level == 0, self.told("L2", name, node))
            self.assertNotIn("*", [part.name for part in node.names])

    def test_statements_and_expressions(self):
        for name, node in nodes():
            if isinstance(node, ast.stmt):
                self.assertIsInstance(node, STATEMENTS, self.told("L6", name, node))
            self.assertNotIsInstance(node, RULED_OUT, self.told("L7", name, node))
            if isinstance(node, ast.Constant):
                self.assertNotIsInstance(node.value, (float, complex, bytes), self.told("L7", name, node))
            if isinstance(node, ast.Constant) and isinstance(node.value, str):
                self.assertNotIn("%", node.value, self.told("L27", name, node))
            if isinstance(node, ast.BinOp) and isinstance(node.op, ast.Pow):
                self.assertIsInstance(node.right, ast.Constant, self.told("L27", name, node))
            if isinstance(node, (ast.For, ast.While)):
                self.assertEqual(node.orelse, [], self.told("L6", name, node))
            if isinstance(node, ast.Try):
                self.assertEqual(node.finalbody, [], self.told("L6", name, node))
            if isinstance(node, ast.ListComp):
                self.assertEqual(len(node.generators), 1, self.told("L7", name, node))
                self.assertLessEqual(len(node.generators[0].ifs), 1, self.told("L7", name, node))

    def test_functions_and_classes(self):
        for name, node in of_kind((ast.FunctionDef, ast.ClassDef)):
            self.assertEqual(node.decorator_list, [], self.told("L4", name, node))
        for name, node in of_kind(ast.FunctionDef):
            self.assertLessEqual(node.end_lineno - node.lineno, 39, self.told("L10", name, node))
            given = node.args
            self.assertFalse(given.vararg or given.kwarg or given.kwonlyargs or given.posonlyargs,
                             self.told("L4", name, node))
            self.assertTrue(node.name in DUNDERS or node.name[0] != "_", self.told("L12", name, node))
        for name, node in of_kind(ast.ClassDef):
            self.assertLessEqual(len(node.bases), 1, self.told("L5", name, node))
            for row in node.body:
                self.assertIsInstance(row, (ast.FunctionDef, ast.Pass), self.told("L5", name, row))

    def test_names_and_methods(self):
        methods = [node.name for name, node in of_kind(ast.FunctionDef)]
        for name, node in of_kind(ast.Name):
            self.assertNotEqual(node.id[0], "_", self.told("L12", name, node))
            if node.id in dir(builtins):
                self.assertIn(node.id, OWN_NAMES, self.told("L8", name, node))
                self.assertIsInstance(node.ctx, ast.Load, self.told("L15", name, node))
        for name, node in of_kind(ast.arg):
            self.assertNotIn(node.arg, dir(builtins), self.told("L15", name, node))
        for name, node in of_kind(ast.Call):
            if isinstance(node.func, ast.Attribute):
                self.assertIn(node.func.attr, METHODS + methods, self.told("L25", name, node))

    def test_no_name_is_a_method_and_a_value(self):
        methods = [row.name for name, node in of_kind(ast.ClassDef) for row in node.body
                   if isinstance(row, ast.FunctionDef)]
        for name, node in of_kind(ast.Attribute):
            if isinstance(node.ctx, ast.Store):
                self.assertNotIn(node.attr, methods, self.told("L18", name, node))

    def test_each_file_draws_only_from_those_it_may(self):
        stages = (("sayings", "texts"), ("forms",), ("putting",), ("wishes",), ("onegap",), ("several",), ("papers",),
                  ("counting",), ("alikes", "between"), ("desk",))
        may = {"__init__.py": (), "errors.py": ()}
        lower = ["errors"]
        for files in stages:
            may.update({name + ".py": list(lower) for name in files})
            lower += files
        may["forms.py"] = ["errors"]
        may["sayings.py"].append("forms")
        may["texts.py"].append("sayings")
        self.assertEqual(sorted(may), [path.name for path in sources()])
        for name, node in of_kind(ast.ImportFrom):
            self.assertIn(node.module.split(".")[1], may[name], self.told("interface", name, node))

    def test_names_are_drawn_from_the_file_that_defines_them(self):
        defined = {name: bound_at_top(tree) for name, tree in trees()}
        for name, node in of_kind(ast.ImportFrom):
            for part in node.names:
                self.assertIsNone(part.asname, self.told("L16", name, node))
                self.assertIn(part.name, defined[node.module.split(".")[1] + ".py"], self.told("L16", name, node))

    def test_each_name_stands_for_one_thing(self):
        for name, tree in trees():
            drawn = [part.name for row in tree.body if isinstance(row, ast.ImportFrom) for part in row.names]
            bound = bound_at_top(tree) + drawn
            self.assertEqual(len(bound), len(set(bound)), "L15 " + name)
            classes = [row.name for row in tree.body if isinstance(row, ast.ClassDef)]
            within = [node for top in tree.body if isinstance(top, (ast.FunctionDef, ast.ClassDef))
                      for node in ast.walk(top)]
            for node in within:
                if isinstance(node, ast.arg):
                    self.assertNotIn(node.arg, drawn + classes, self.told("L15", name, node))
                if isinstance(node, ast.Name) and isinstance(node.ctx, ast.Store):
                    self.assertNotIn(node.id, bound, self.told("L15", name, node))

    def test_is_and_assignments(self):
        for name, node in of_kind(ast.Compare):
            for operator, right in zip(node.ops, node.comparators):
                if isinstance(operator, (ast.Is, ast.IsNot)):
                    self.assertIsInstance(right, ast.Constant, self.told("L20", name, node))
                    self.assertIn(right.value, (None, True, False), self.told("L20", name, node))
        for name, node in of_kind(ast.Assign):
            self.assertEqual(len(node.targets), 1, self.told("L6", name, node))
            self.assertNotIsInstance(node.targets[0], (ast.Tuple, ast.List), self.told("L6", name, node))


if __name__ == "__main__":
    unittest.main()
