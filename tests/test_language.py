"""Rules of ../shared/LANGUAGE.md that are plain to see in the files: L1, L2, L8, L10, L14 to L18, L27."""

import ast
import builtins
import pathlib
import re
import unittest

import failslack

FOLDER = pathlib.Path(failslack.__file__).parent
FILES = sorted(FOLDER.glob("*.py"))
BARRED = (
    "type|typing|typing_extensions|enum|Enum|IntEnum|StrEnum|Flag|IntFlag|Generic|Protocol|ABC|ABCMeta|namedtuple"
    "|NamedTuple|TypedDict|TYPE_CHECKING|abstractmethod"
)


def trees():
    return [(path.name, ast.parse(path.read_text("ascii"))) for path in FILES]


def nodes(*kinds):
    return [(name, node) for name, tree in trees() for node in ast.walk(tree) if isinstance(node, kinds)]


class LanguageTest(unittest.TestCase):
    def test_the_folder_holds_only_files_of_the_package(self):
        others = [path.name for path in FOLDER.iterdir() if path not in FILES and path.name != "__pycache__"]
        self.assertEqual(others, [])
        self.assertIn("__init__.py", [path.name for path in FILES])

    def test_signs_lines_and_files(self):
        for path in FILES:
            text = path.read_bytes().decode("ascii")
            self.assertRegex(text, r"\A[ -~\n]*\Z", path.name)
            lines = text.split("\n")
            self.assertLessEqual(len(lines), 400, path.name)
            self.assertLessEqual(max(map(len, lines)), 120, path.name)

    def test_barred_words(self):
        for path in FILES:
            text = path.read_text("ascii")
            self.assertIsNone(re.search(rf"\b({BARRED})\b|dataclass|overload|contextmanager", text), path.name)

    def test_functions_are_short(self):
        for name, node in nodes(ast.FunctionDef):
            self.assertLessEqual(node.end_lineno - node.lineno + 1, 40, (name, node.name))

    def test_imports(self):
        for name, node in nodes(ast.Import, ast.ImportFrom):
            self.assertIsInstance(node, ast.ImportFrom, name)
            self.assertEqual(node.level, 0, name)
            self.assertRegex(node.module, r"\Afailslack\.[a-z_]+\Z", name)

    def test_no_two_files_import_from_each_other(self):
        wants = {path.stem: [] for path in FILES}
        for name, node in nodes(ast.ImportFrom):
            wants[name.removesuffix(".py")].append(node.module.removeprefix("failslack."))
        while wants:
            free = [name for name, others in wants.items() if not any(other in wants for other in others)]
            self.assertNotEqual(free, [], wants)
            wants = {name: others for name, others in wants.items() if name not in free}

    def test_no_local_name_has_another_meaning(self):
        for name, tree in trees():
            taken = set(dir(builtins))
            for node in ast.walk(tree):
                if isinstance(node, ast.ImportFrom):
                    taken.update(part.name for part in node.names)
                if isinstance(node, ast.ClassDef):
                    taken.add(node.name)
            for node in ast.walk(tree):
                if isinstance(node, ast.Name) and isinstance(node.ctx, ast.Store):
                    self.assertNotIn(node.id, taken, name)
                if isinstance(node, ast.arg):
                    self.assertNotIn(node.arg, taken, name)

    def test_no_percent_sign_in_a_string(self):
        for name, node in nodes(ast.Constant):
            self.assertNotIn("%", node.value if isinstance(node.value, str) else "", name)

    def test_no_name_begins_with_an_underscore(self):
        for name, node in nodes(ast.Name, ast.arg, ast.Attribute, ast.FunctionDef, ast.ClassDef):
            fields = (getattr(node, field, None) for field in ("id", "arg", "attr", "name"))
            word = next(field for field in fields if field)
            self.assertTrue(word == "__init__" or not word.startswith("_"), (name, word))

    def test_no_name_is_both_a_method_and_an_attribute(self):
        methods = {part.name for _, node in nodes(ast.ClassDef) for part in node.body
                   if isinstance(part, ast.FunctionDef)}
        set_ones = {node.attr for _, node in nodes(ast.Attribute) if isinstance(node.ctx, ast.Store)}
        self.assertEqual(methods & set_ones, set())


if __name__ == "__main__":
    unittest.main()
