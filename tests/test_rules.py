"""Some rules of ../shared/LANGUAGE.md that are quickly seen: sizes, characters, imports, words, warnings."""

import ast
import pathlib
import re
import unittest
import warnings

ROOT = pathlib.Path(__file__).resolve().parent.parent / "silentdecks"
FILES = sorted(ROOT.glob("**/*.py"))
BUILTINS = set("""len range enumerate zip min max sum abs sorted reversed int str bool list tuple dict set isinstance ord repr
any all divmod pow ValueError""".split())
WORDS = "typing enum Enum namedtuple dataclass overload contextmanager type".split()
NO_NAMES = set("register mro elements open input law version_info with_traceback add_note".split())


class Rules(unittest.TestCase):
    def test_only_python_files(self):
        others = [path for path in ROOT.glob("**/*") if path.suffix != ".py" and "__pycache__" not in str(path)]
        self.assertEqual([path for path in others if not path.is_dir()], [])
        self.assertIn(ROOT / "__init__.py", FILES)

    def test_sizes_and_characters(self):
        for path in FILES:
            text = path.read_text(encoding="utf-8")
            lines = text.split("\n")
            self.assertLessEqual(len(lines), 399, path)
            for number, line in enumerate(lines, 1):
                self.assertLessEqual(len(line), 120, (path, number))
                self.assertTrue(all(" " <= letter <= "~" for letter in line), (path, number))
            for node in ast.walk(ast.parse(text)):
                if isinstance(node, ast.FunctionDef):
                    self.assertLessEqual(node.end_lineno - node.lineno + 1, 40, (path, node.name))

    def test_statements_and_names(self):
        barred = (ast.Global, ast.AsyncFunctionDef, ast.Await, ast.Import, ast.Div)
        for path in FILES:
            tree = ast.parse(path.read_text(encoding="utf-8"))
            for node in ast.walk(tree):
                self.assertNotIsInstance(node, barred, path)
                if isinstance(node, ast.ImportFrom):
                    self.assertIn(node.module.split(".")[0], ("silentdecks", "math", "heapq", "itertools", "collections"))
                    self.assertEqual(node.level, 0)
                if isinstance(node, ast.Constant):
                    self.assertNotIsInstance(node.value, float, path)
                    self.assertFalse(isinstance(node.value, str) and "%" in node.value, path)
                if isinstance(node, (ast.FunctionDef, ast.ClassDef)):
                    self.assertEqual(node.decorator_list, [], path)

    def test_builtins_and_words(self):
        known = set(dir(__import__("builtins"))) - {"_"}
        for path in FILES:
            text = path.read_text(encoding="utf-8")
            names = {node.id for node in ast.walk(ast.parse(text)) if isinstance(node, ast.Name)}
            self.assertEqual(sorted(names & known - BUILTINS), [], path)
            taken = {node.id for node in ast.walk(ast.parse(text)) if isinstance(node, ast.Name)
                     and not isinstance(node.ctx, ast.Load)}
            taken |= {node.arg for node in ast.walk(ast.parse(text)) if isinstance(node, ast.arg)}
            self.assertEqual(sorted(taken & known), [], path)
            functions = {node.name for node in ast.walk(ast.parse(text)) if isinstance(node, (ast.FunctionDef, ast.ClassDef))}
            self.assertEqual(sorted((names | taken | functions) & NO_NAMES), [], path)
            for word in WORDS:
                self.assertIsNone(re.search(rf"\b{word}\b", text), (path, word))

    def test_no_import_goes_round(self):
        graph = {}
        for path in FILES:
            tree = ast.parse(path.read_text(encoding="utf-8"))
            graph[path.stem] = {node.module.split(".")[1] for node in tree.body
                                if isinstance(node, ast.ImportFrom) and node.module.startswith("silentdecks.")}
        while graph:
            free = [name for name in graph if not graph[name] & set(graph)]
            self.assertNotEqual(free, [], graph)
            for name in free:
                del graph[name]

    def test_no_warnings(self):
        for path in FILES:
            with warnings.catch_warnings():
                warnings.simplefilter("error")
                compile(path.read_text(encoding="utf-8"), str(path), "exec")
