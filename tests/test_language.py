"""The package keeps to the small part of Python that it is written in (what of it can be seen in the text)."""

import ast
import builtins
import pathlib
import re
import unittest

PACKAGE = pathlib.Path(__file__).resolve().parent.parent / "supplierdays"

STATEMENTS = (ast.Assign, ast.AugAssign, ast.If, ast.While, ast.For, ast.Return, ast.Break, ast.Continue, ast.Pass,
              ast.Raise, ast.Expr, ast.FunctionDef, ast.ClassDef, ast.ImportFrom)

EXPRESSIONS = (ast.Constant, ast.Name, ast.Attribute, ast.Subscript, ast.Slice, ast.Call, ast.BinOp, ast.UnaryOp,
               ast.BoolOp, ast.Compare, ast.IfExp, ast.List, ast.Tuple, ast.Dict, ast.ListComp)

BUILT_IN = ("len range enumerate zip min max sum abs sorted reversed int str bool list tuple dict set frozenset "
            "isinstance ord repr any all divmod").split()

METHODS = "append extend get".split()

NOT_AS_NAMES = ("register mro elements open input version_info with_traceback add_note attrgetter breakpoint builtins "
                "compile copyright credits delattr dir eval exec exit gc getattr globals hasattr help id importlib "
                "license locals methodcaller os quit setattr super vars sys").split()

NOT_AS_WORDS = ("type typing typing_extensions enum Enum IntEnum StrEnum Flag IntFlag Generic Protocol ABC ABCMeta "
                "namedtuple NamedTuple TypedDict TYPE_CHECKING abstractmethod").split()


def files():
    return sorted(path for path in PACKAGE.iterdir() if path.name != "__pycache__")


def is_plain(node):
    if isinstance(node, (ast.Tuple, ast.List)):
        return all(is_plain(part) for part in node.elts)
    if isinstance(node, ast.Dict):
        return all(is_plain(part) for part in node.keys + node.values)
    return isinstance(node, ast.Constant)


def bound_names(tree):
    names = [node.id for node in ast.walk(tree) if isinstance(node, ast.Name) and isinstance(node.ctx, ast.Store)]
    names += [node.arg for node in ast.walk(tree) if isinstance(node, ast.arg)]
    names += [node.name for node in ast.walk(tree) if isinstance(node, (ast.FunctionDef, ast.ClassDef))]
    return names


class LanguageTest(unittest.TestCase):
    def trees(self):
        return [(path.name, ast.parse(path.read_text("ascii"))) for path in files()]

    def test_files(self):
        for path in files():
            self.assertRegex(path.name, r"^[a-z][a-z0-9_]*\.py$|^__init__\.py$")
            text = path.read_text("ascii")
            self.assertRegex(text, r"\A[ -~\n]*\Z", path.name)
            lines = text.split("\n")
            self.assertLessEqual(len(lines), 400, path.name)
            self.assertLessEqual(max(len(line) for line in lines), 120, path.name)
            for word in NOT_AS_WORDS:
                self.assertNotRegex(text, r"\b" + word + r"\b", path.name)
            self.assertFalse(re.search("dataclass|overload|contextmanager", text), path.name)

    def test_top_of_a_file(self):
        for name, tree in self.trees():
            self.assertTrue(ast.get_docstring(tree), name)
            for node in tree.body[1:]:
                self.assertIsInstance(node, (ast.ImportFrom, ast.FunctionDef, ast.ClassDef, ast.Assign), name)
                if isinstance(node, ast.Assign):
                    self.assertTrue(is_plain(node.value), (name, node.lineno))

    def test_imports_are_the_package_s_own_and_not_in_a_circle(self):
        drawn = {}
        for name, tree in self.trees():
            rows = [node for node in ast.walk(tree) if isinstance(node, ast.ImportFrom)]
            self.assertTrue(all(row.level == 0 and row.module.startswith("supplierdays.") for row in rows), name)
            self.assertTrue(all(part.asname is None and part.name != "*" for row in rows for part in row.names), name)
            drawn["supplierdays." + name[:-3]] = {row.module for row in rows}
        while drawn:
            free = [name for name in drawn if not drawn[name] & set(drawn)]
            self.assertTrue(free, drawn)
            for name in free:
                del drawn[name]

    def test_statements_and_expressions(self):
        for name, tree in self.trees():
            for node in ast.walk(tree):
                where = (name, getattr(node, "lineno", 0))
                if isinstance(node, ast.stmt):
                    self.assertIsInstance(node, STATEMENTS, where)
                if isinstance(node, ast.expr):
                    self.assertIsInstance(node, EXPRESSIONS, where)
                if isinstance(node, ast.Assign):
                    self.assertEqual(len(node.targets), 1, where)
                    self.assertNotIsInstance(node.targets[0], (ast.Tuple, ast.List), where)
                if isinstance(node, (ast.For, ast.While)):
                    self.assertEqual(node.orelse, [], where)
                if isinstance(node, ast.Constant):
                    self.assertIn(type(node.value), (int, str, bool, type(None)), where)
                self.assertNotIsInstance(node, (ast.Div, ast.Pow, ast.Is, ast.IsNot), where)

    def test_functions(self):
        for name, tree in self.trees():
            for node in ast.walk(tree):
                if not isinstance(node, ast.FunctionDef):
                    continue
                self.assertLessEqual(node.end_lineno - node.lineno + 1, 40, (name, node.name))
                self.assertEqual(node.decorator_list, [], (name, node.name))
                rest = node.args
                self.assertFalse(rest.vararg or rest.kwarg or rest.kwonlyargs or rest.posonlyargs, (name, node.name))

    def test_names(self):
        for name, tree in self.trees():
            imported = [part.name for node in tree.body if isinstance(node, ast.ImportFrom) for part in node.names]
            bound = bound_names(tree)
            for one in bound:
                self.assertNotIn(one, BUILT_IN + NOT_AS_NAMES + imported, name)
                self.assertNotIn(one, dir(builtins), name)
                if one != "__init__":
                    self.assertRegex(one, r"^[A-Za-z][A-Za-z0-9_]*$", name)
            for node in ast.walk(tree):
                if isinstance(node, ast.Name):
                    self.assertIn(node.id, BUILT_IN + imported + bound, (name, node.lineno))
                if isinstance(node, ast.Attribute):
                    self.assertNotIn(node.attr, NOT_AS_NAMES, (name, node.lineno))
                    self.assertFalse(node.attr.startswith("_"), (name, node.lineno))
                if isinstance(node, ast.Call) and isinstance(node.func, ast.Attribute):
                    self.assertIn(node.func.attr, METHODS, (name, node.lineno))

    def test_each_name_once_at_the_top(self):
        for name, tree in self.trees():
            top = []
            for node in tree.body[1:]:
                if isinstance(node, ast.ImportFrom):
                    top += [part.name for part in node.names]
                elif isinstance(node, ast.Assign):
                    top += [target.id for target in node.targets]
                else:
                    top.append(node.name)
            self.assertEqual(len(top), len(set(top)), name)


if __name__ == "__main__":
    unittest.main()
