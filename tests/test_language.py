"""What of ../shared/LANGUAGE.md can be seen by going through the files of the package."""

import ast
import builtins
import re
import unittest
from pathlib import Path

PACKAGE = Path(__file__).resolve().parent.parent / "signposts"
LIBRARY = {"heapq": {"heappush", "heappop", "heapify"}}
BUILTINS = set("""len range enumerate zip min max sum abs sorted reversed int str bool bytes list tuple
dict set isinstance ord repr any all divmod Exception ValueError TypeError KeyError IndexError""".split())
METHODS = set("append clear copy count extend get index insert items keys pop remove reverse values".split())
STATEMENTS = (ast.Assign, ast.AugAssign, ast.If, ast.While, ast.For, ast.Return, ast.Raise, ast.Expr,
              ast.FunctionDef, ast.ClassDef, ast.ImportFrom)
BARRED_WORDS = ["typing", "enum", "dataclass", "namedtuple", "overload", "contextmanager", "_wall"]


class Language(unittest.TestCase):
    def setUp(self):
        self.files = sorted(path for path in PACKAGE.rglob("*") if "__pycache__" not in path.parts)
        self.texts = {path.name: path.read_text("utf-8") for path in self.files}
        self.trees = {name: ast.parse(text) for name, text in self.texts.items()}

    def nodes(self, *kinds):
        for name, tree in self.trees.items():
            for node in ast.walk(tree):
                if isinstance(node, kinds):
                    yield name, node

    def test_files(self):
        self.assertTrue(all(path.suffix == ".py" and path.name.islower() for path in self.files))
        for name in ["__init__.py", "errors.py", "answers.py", "turning.py", "posts.py"]:
            self.assertIn(name, self.texts)

    def test_sizes_and_characters(self):
        for name, text in self.texts.items():
            with self.subTest(name):
                self.assertTrue(all(" " <= sign <= "~" or sign == "\n" for sign in text))
                lines = text.splitlines()
                self.assertLess(len(lines), 400)
                self.assertLessEqual(max(len(line) for line in lines), 120)
                for word in BARRED_WORDS:
                    self.assertIsNone(re.search(rf"\b{word}\b", text), word)
        for name, node in self.nodes(ast.FunctionDef):
            self.assertLessEqual(node.end_lineno - node.lineno + 1, 40, node.name)
            self.assertEqual(node.decorator_list, [])

    def test_imports(self):
        for name, node in self.nodes(ast.Import):
            self.fail(f"{name} imports a module")
        for name, node in self.nodes(ast.ImportFrom):
            for alias in node.names:
                self.assertIsNone(alias.asname)
                if node.module in LIBRARY:
                    self.assertIn(alias.name, LIBRARY[node.module])
                else:
                    folder, file = node.module.split(".")
                    self.assertEqual(folder, "signposts")
                    defined = [part.name for part in self.trees[file + ".py"].body if hasattr(part, "name")]
                    self.assertIn(alias.name, defined)

    def test_statements_and_values(self):
        for name, node in self.nodes(ast.stmt):
            self.assertIsInstance(node, STATEMENTS, name)
        for name, node in self.nodes(ast.Constant):
            self.assertNotIsInstance(node.value, (float, complex, bytes))
            if isinstance(node.value, str):
                self.assertNotIn("%", node.value)
        for name, node in self.nodes(ast.Div, ast.Lambda, ast.Starred, ast.Yield, ast.Try):
            self.fail(f"{name}: {node}")
        for name, node in self.nodes(ast.Compare):
            for sign, other in zip(node.ops, node.comparators):
                if isinstance(sign, (ast.Is, ast.IsNot)):
                    self.assertIsInstance(other, ast.Constant, name)

    def test_calls(self):
        for name, node in self.nodes(ast.Call):
            self.assertEqual(node.keywords, [], name)
            if isinstance(node.func, ast.Name):
                known = {part.name for tree in self.trees.values() for part in tree.body if hasattr(part, "name")}
                self.assertIn(node.func.id, known | BUILTINS | set().union(*LIBRARY.values()))
            else:
                self.assertIn(node.func.attr, METHODS, name)

    def test_module_level(self):
        for name, tree in self.trees.items():
            names = []
            for node in tree.body:
                if isinstance(node, ast.Assign):
                    self.assertIsInstance(node.value, ast.Constant, name)
                    names.append(node.targets[0].id)
                elif isinstance(node, ast.ImportFrom):
                    names += [alias.name for alias in node.names]
                elif isinstance(node, ast.Expr):
                    self.assertIsInstance(node.value, ast.Constant, name)
                else:
                    self.assertIsInstance(node, (ast.FunctionDef, ast.ClassDef), name)
                    names.append(node.name)
            self.assertEqual(len(names), len(set(names)), name)
            stored = {node.id for node in ast.walk(tree)
                      if isinstance(node, ast.Name) and isinstance(node.ctx, ast.Store)}
            stored |= {node.arg for node in ast.walk(tree) if isinstance(node, ast.arg)}
            constants = {node.targets[0].id for node in tree.body if isinstance(node, ast.Assign)}
            self.assertEqual((stored - constants) & set(names), set(), name)
            self.assertEqual(stored & set(dir(builtins)), set(), name)


if __name__ == "__main__":
    unittest.main()
