"""The package's files keep to the small part of Python that is agreed on.

Not every rule can be looked at by a program; those that are easy are here.
"""

import ast
import builtins
import pathlib
import re
import unittest

PACKAGE = pathlib.Path(__file__).resolve().parent.parent / "drawntogether"

STATEMENTS = (ast.FunctionDef, ast.ClassDef, ast.ImportFrom, ast.Assign, ast.AugAssign, ast.If, ast.While, ast.For,
              ast.Return, ast.Break, ast.Continue, ast.Pass, ast.Raise, ast.Try, ast.Expr)
EXPRESSIONS = (ast.Constant, ast.Name, ast.Attribute, ast.Subscript, ast.Slice, ast.Call, ast.List, ast.Tuple,
               ast.Dict, ast.BinOp, ast.UnaryOp, ast.BoolOp, ast.Compare, ast.IfExp, ast.ListComp, ast.Lambda,
               ast.JoinedStr, ast.FormattedValue)
OWN_NAMES = set("len range enumerate zip min max sum abs sorted reversed int str bool list tuple dict set isinstance "
                "ord repr any all divmod Exception ValueError KeyError".split())
METHODS = set("append clear copy count extend find get index insert items join keys pop remove reverse setdefault "
              "split startswith strip update values".split())
FORBIDDEN = re.compile(r"\b(type|typing|enum|Enum|Flag|Generic|Protocol|ABC|namedtuple|open|input|register|elements"
                       r"|mro|eval|exec|getattr|setattr|globals|locals|super|chr|print|hash|id|vars|del|global"
                       r"|nonlocal|assert|yield|async|with|finally)\b")


def own_files():
    return sorted(PACKAGE.glob("*.py"))


def bound_names(tree):
    names = set()
    for node in ast.walk(tree):
        if isinstance(node, (ast.FunctionDef, ast.ClassDef)):
            names.add(node.name)
        elif isinstance(node, ast.ImportFrom):
            names.update(alias.name for alias in node.names)
        elif isinstance(node, ast.arg):
            names.add(node.arg)
        elif isinstance(node, ast.Name) and isinstance(node.ctx, ast.Store):
            names.add(node.id)
    return names


class Language(unittest.TestCase):
    def test_there_are_files(self):
        self.assertIn("nets.py", [path.name for path in own_files()])
        others = [path.name for path in PACKAGE.iterdir() if path.suffix != ".py" and path.name != "__pycache__"]
        self.assertEqual(others, [])

    def test_lines(self):
        for path in own_files():
            text = path.read_text(encoding="utf-8")
            self.assertTrue(all(sign == "\n" or " " <= sign <= "~" for sign in text), path)
            lines = text.splitlines()
            self.assertLessEqual(len(lines), 400, path)
            self.assertLessEqual(max(len(line) for line in lines), 120, path)

    def test_words(self):
        for path in own_files():
            code = "\n".join(line for line in path.read_text().splitlines() if not line.strip().startswith("#"))
            code = code.split('"""')[2]
            self.assertIsNone(FORBIDDEN.search(code), path)
            self.assertIsNone(re.search(r"\b(type|typing|enum)\b", path.read_text()), path)

    def test_statements_and_expressions(self):
        for path in own_files():
            for node in ast.walk(ast.parse(path.read_text())):
                if isinstance(node, ast.stmt):
                    self.assertIsInstance(node, STATEMENTS, (path, node.lineno))
                if isinstance(node, ast.expr):
                    self.assertIsInstance(node, EXPRESSIONS, (path, node.lineno))
                if isinstance(node, ast.Assign):
                    self.assertEqual(len(node.targets), 1, (path, node.lineno))
                if isinstance(node, (ast.For, ast.While)):
                    self.assertEqual(node.orelse, [], (path, node.lineno))
                if isinstance(node, ast.BinOp):
                    self.assertNotIsInstance(node.op, (ast.Div, ast.Pow, ast.MatMult), (path, node.lineno))
                if isinstance(node, ast.Constant):
                    self.assertIn(type(node.value), (int, str, bool, type(None)), (path, node.lineno))

    def test_functions(self):
        for path in own_files():
            for node in ast.walk(ast.parse(path.read_text())):
                if isinstance(node, ast.FunctionDef):
                    self.assertLessEqual(node.end_lineno - node.lineno + 1, 40, (path, node.name))
                    self.assertEqual(node.decorator_list, [], (path, node.name))
                    plain = node.args.vararg or node.args.kwarg or node.args.kwonlyargs or node.args.posonlyargs
                    self.assertFalse(plain, (path, node.name))

    def test_imports(self):
        draws = {}
        for path in own_files():
            tree = ast.parse(path.read_text())
            rows = [node for node in ast.walk(tree) if isinstance(node, ast.ImportFrom)]
            self.assertTrue(all(row in tree.body and row.level == 0 for row in rows), path)
            draws["drawntogether." + path.stem] = {row.module for row in rows}
        while draws:
            free = [name for name in draws if not draws[name] & set(draws)]
            self.assertTrue(free, draws)
            for name in free:
                del draws[name]

    def test_names(self):
        for path in own_files():
            tree = ast.parse(path.read_text())
            bound = bound_names(tree)
            self.assertEqual(bound & set(dir(builtins)), set(), path)
            self.assertEqual([name for name in bound if name.startswith("_") and name != "__init__"], [], path)
            for node in ast.walk(tree):
                if isinstance(node, ast.Name) and isinstance(node.ctx, ast.Load):
                    self.assertIn(node.id, bound | OWN_NAMES | {"self"}, (path, node.lineno))

    def test_locals_are_not_called_like_imports(self):
        for path in own_files():
            tree = ast.parse(path.read_text())
            taken = {alias.name for node in tree.body if isinstance(node, ast.ImportFrom) for alias in node.names}
            taken |= {node.name for node in tree.body if isinstance(node, (ast.ClassDef, ast.FunctionDef))}
            for node in ast.walk(tree):
                if isinstance(node, ast.Name) and isinstance(node.ctx, ast.Store):
                    self.assertNotIn(node.id, taken, (path, node.lineno))
                if isinstance(node, ast.arg):
                    self.assertNotIn(node.arg, taken, (path, node.lineno))

    def test_methods(self):
        methods = set()
        values = set()
        calls = []
        for path in own_files():
            for node in ast.walk(ast.parse(path.read_text())):
                if isinstance(node, ast.ClassDef):
                    methods.update(item.name for item in node.body if isinstance(item, ast.FunctionDef))
                if isinstance(node, ast.Attribute) and isinstance(node.ctx, ast.Store):
                    values.add(node.attr)
                if isinstance(node, ast.Call) and isinstance(node.func, ast.Attribute):
                    calls.append((node.func.attr, path, node.lineno))
        self.assertEqual(methods & values, set())
        for call in calls:
            self.assertIn(call[0], methods | METHODS, call)


if __name__ == "__main__":
    unittest.main()
