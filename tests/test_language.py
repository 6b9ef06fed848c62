"""The rules of ../shared/LANGUAGE.md that can be read off the text of the files."""

import ast
import builtins
import pathlib
import re
import unittest

PACKAGE = pathlib.Path(__file__).resolve().parent.parent / "creditfloor"
FILES = sorted(PACKAGE.glob("*.py"))
BARRED = re.compile(
    r"\b(type|typing|typing_extensions|enum|Enum|IntEnum|StrEnum|Flag|IntFlag|Generic|Protocol|ABC|ABCMeta"
    r"|namedtuple|NamedTuple|TypedDict|TYPE_CHECKING|abstractmethod)\b|dataclass|overload|contextmanager"
)


def nodes(path, *kinds):
    return [node for node in ast.walk(ast.parse(path.read_text("utf-8"))) if isinstance(node, kinds)]


class LanguageTest(unittest.TestCase):
    def test_the_folder_has_nothing_else(self):
        names = [path.name for path in PACKAGE.iterdir() if path.name != "__pycache__"]
        self.assertIn("__init__.py", names)
        for name in names:
            self.assertRegex(name, r"\A(__init__|__main__|[a-z][a-z0-9_]*)\.py\Z")

    def test_characters_and_sizes(self):
        for path in FILES:
            text = path.read_text("utf-8")
            with self.subTest(path.name):
                self.assertRegex(text, r"\A[ -~\n]*\Z")
                self.assertLessEqual(len(text.splitlines()), 399)
                self.assertLessEqual(max(len(line) for line in text.splitlines()), 120)
                self.assertIsNone(BARRED.search(text))

    def test_functions_are_short(self):
        for path in FILES:
            for node in nodes(path, ast.FunctionDef):
                with self.subTest(file=path.name, function=node.name):
                    self.assertLessEqual(node.end_lineno - node.lineno + 1, 40)

    def test_imports_are_from_the_package(self):
        for path in FILES:
            for node in nodes(path, ast.Import, ast.ImportFrom):
                with self.subTest(file=path.name, line=node.lineno):
                    self.assertIsInstance(node, ast.ImportFrom)
                    self.assertRegex(node.module, r"\Acreditfloor\.[a-z_]+\Z")
                    self.assertEqual(node.level, 0)

    def test_no_float_and_no_division(self):
        for path in FILES:
            with self.subTest(path.name):
                self.assertEqual(nodes(path, ast.Div), [])
                self.assertFalse([node for node in nodes(path, ast.Constant) if isinstance(node.value, float)])

    def test_no_percent_in_strings(self):
        for path in FILES:
            strings = [node.value for node in nodes(path, ast.Constant) if isinstance(node.value, str)]
            with self.subTest(path.name):
                self.assertFalse([text for text in strings if "%" in text])

    def test_names_mean_one_thing(self):
        for path in FILES:
            taken = set(dir(builtins)) | {alias.name for node in nodes(path, ast.ImportFrom) for alias in node.names}
            taken |= {node.name for node in nodes(path, ast.ClassDef)}
            bound = {node.id for node in nodes(path, ast.Name) if isinstance(node.ctx, ast.Store)}
            bound |= {node.arg for node in nodes(path, ast.arg)} | {node.name for node in nodes(path, ast.FunctionDef)}
            with self.subTest(path.name):
                self.assertEqual(bound & taken, set())
                self.assertFalse([name for name in bound if name.startswith("_") and not name.endswith("__")])

    def test_methods_are_no_attributes(self):
        methods = {part.name for path in FILES for node in nodes(path, ast.ClassDef)
                   for part in node.body if isinstance(part, ast.FunctionDef)}
        stored = {node.attr for path in FILES for node in nodes(path, ast.Attribute) if isinstance(node.ctx, ast.Store)}
        self.assertEqual(methods & stored, set())

    def test_no_generator_expressions(self):
        # Link has an __eq__, so all, any, min, max, sum and sorted take lists.
        for path in FILES:
            with self.subTest(path.name):
                self.assertEqual(nodes(path, ast.GeneratorExp), [])


if __name__ == "__main__":
    unittest.main()
