"""The interface stands where the document lists it, and the files keep to the plain language."""

import ast
import unittest
from pathlib import Path

PACKAGE = Path(__file__).resolve().parent.parent / "onlyflags"

INTERFACE = {
    "rules": {
        "is_word": ["value"], "is_rule": ["value"], "letter": ["rule", "payload"], "frame": ["rule", "payload"],
        "stream": ["rule", "payloads"], "tails": ["rule"],
    },
    "receiving": {
        "borders": ["rule", "bits"], "answers": ["rule", "bits"], "loose": ["rule", "bits"],
        "is_stream": ["rule", "bits"],
    },
    "clean": {
        "is_clean": ["rule"], "breaking": ["rule"], "clean_table": ["rule"], "is_clean_table": ["rule", "value"],
    },
    "shares": {
        "share": ["rule"], "ring": ["rule"], "most_put": ["rule", "length"], "share_table": ["rule"],
        "is_share_table": ["rule", "fraction", "value"],
    },
    "lists": {
        "alike": ["one", "other"], "parting": ["one", "other"], "count_lists": ["rule", "length"],
        "nth_list": ["rule", "length", "index"], "list_index": ["rule", "payloads"],
    },
    "damage": {
        "changed": ["bits", "change"], "harm": ["rule", "payloads", "change"], "silent": ["rule", "kind"],
        "distance": ["rule"], "nearest": ["rule"], "spread": ["rule", "kind"],
    },
    "finding": {"clean_words": ["flag"], "best_rules": ["flag"]},
}

LIBRARY = {"math": ["gcd"]}

BARRED = (ast.Import, ast.AsyncFunctionDef, ast.Await, ast.Div)


def sources():
    return sorted(PACKAGE.glob("**/*.py"))


class TestInterface(unittest.TestCase):
    def test_functions_are_defined_in_their_files(self):
        for name, functions in INTERFACE.items():
            tree = ast.parse((PACKAGE / (name + ".py")).read_text())
            found = {
                part.name: [arg.arg for arg in part.args.args] for part in tree.body if isinstance(part, ast.FunctionDef)
            }
            for function, arguments in functions.items():
                self.assertEqual(found.get(function), arguments, function)


class TestLanguage(unittest.TestCase):
    def test_sizes_and_characters(self):
        self.assertTrue(sources())
        for file in sources():
            text = file.read_text()
            self.assertTrue(all(char == "\n" or " " <= char <= "~" for char in text), file)
            lines = text.split("\n")
            self.assertLessEqual(len(lines), 400, file)
            self.assertLessEqual(max(len(line) for line in lines), 120, file)

    def test_functions_are_small(self):
        for file in sources():
            for part in ast.walk(ast.parse(file.read_text())):
                if isinstance(part, ast.FunctionDef):
                    self.assertLessEqual(part.end_lineno - part.lineno + 1, 40, part.name)

    def test_module_level(self):
        for file in sources():
            for at, part in enumerate(ast.parse(file.read_text()).body):
                docstring = at == 0 and isinstance(part, ast.Expr) and isinstance(part.value, ast.Constant)
                plain = isinstance(part, (ast.ImportFrom, ast.FunctionDef, ast.ClassDef))
                self.assertTrue(docstring or plain or self.is_constant(part), file)

    def is_constant(self, part):
        """Whether a statement gives one name a plain value that nobody can change."""
        if not isinstance(part, ast.Assign) or len(part.targets) != 1 or not isinstance(part.targets[0], ast.Name):
            return False
        return isinstance(ast.literal_eval(part.value), (int, str, tuple))

    def test_imports_and_barred_parts(self):
        for file in sources():
            for part in ast.walk(ast.parse(file.read_text())):
                self.assertNotIsInstance(part, BARRED, file)
                if isinstance(part, ast.ImportFrom):
                    names = [alias.name for alias in part.names]
                    own = part.module.startswith("onlyflags.")
                    self.assertTrue(part.level == 0 and (own or names == LIBRARY.get(part.module)), file)

    def test_no_two_files_import_from_each_other(self):
        imports = {}
        for file in sources():
            parts = ast.walk(ast.parse(file.read_text()))
            found = [part.module for part in parts if isinstance(part, ast.ImportFrom)]
            imports["onlyflags." + file.stem] = [name for name in found if name not in LIBRARY]
        left = dict(imports)
        while left:
            free = [name for name in left if not any(other in left for other in left[name])]
            self.assertTrue(free, left)
            left = {name: left[name] for name in left if name not in free}

    def test_the_folder_holds_python_files_only(self):
        for file in PACKAGE.iterdir():
            self.assertTrue(file.suffix == ".py" or file.name == "__pycache__", file)


if __name__ == "__main__":
    unittest.main()
