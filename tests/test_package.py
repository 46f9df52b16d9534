"""The interface stands where the document lists it, and the files keep to the plain language."""

import ast
import unittest
from pathlib import Path

PACKAGE = Path(__file__).resolve().parent.parent / "onlyflags"

INTERFACE = {
    "rules": {
        "is_word": ["value"], "is_rule": ["value"], "letter": ["rule", "payload"], "frame": ["rule", "payload"],
        "stream": ["rule", "payloads"], "tails": ["rule"],
    },
    "receiving": {
        "borders": ["rule", "bits"], "answers": ["rule", "bits"], "loose": ["rule", "bits"],
        "is_stream": ["rule", "bits"],
    },
    "clean": {
        "is_clean": ["rule"], "breaking": ["rule"], "clean_table": ["rule"], "is_clean_table": ["rule", "value"],
    },
    "shares": {
        "share": ["rule"], "ring": ["rule"], "most_put": ["rule", "length"], "share_table": ["rule"],
        "is_share_table": ["rule", "fraction", "value"],
    },
    "lists": {
        "alike": ["one", "other"], "parting": ["one", "other"], "count_lists": ["rule", "length"],
        "nth_list": ["rule", "length", "index"], "list_index": ["rule", "payloads"],
    },
    "damage": {
        "changed": ["bits", "change"], "harm": ["rule", "payloads", "change"], "silent": ["rule", "kind"],
        "distance": ["rule"], "nearest": ["rule"], "spread": ["rule", "kind"],
    },
    "finding": {"clean_words": ["flag"], "best_rules": ["flag"]},
    "texts": {
        "show_word": ["bits"], "parse_word": ["text"], "show_rule": ["rule"], "parse_rule": ["text"],
        "show_payloads": ["payloads"], "parse_payloads": ["text"],
    },
}

# Each class with its bases, its properties, and its methods with the names of their arguments; those of operators are
# free.
CLASSES = {
    ("objects", "Framing"): ((), ["rule", "flag", "inserts", "check"], {
        "__init__": ["rule"], "__call__": ["payloads"], "__len__": [], "__bool__": [], "__eq__": 1, "__contains__": 1,
        "__getitem__": 1, "__add__": 1, "__sub__": 1, "__mul__": 1, "__invert__": [], "breaking": [], "share": [],
        "distance": [], "silent": ["kind"], "received": ["bits"],
    }),
    ("live", "Sender"): ((), ["rule", "payloads", "bits"], {
        "__init__": ["rule"], "__len__": [], "__eq__": 1, "send": ["payload"], "undo": [], "twin": [],
    }),
    ("live", "Receiver"): ((), ["rule", "bits", "answers", "loose"], {
        "__init__": ["rule"], "__len__": [], "__getitem__": 1, "__eq__": 1, "take": ["bits"], "undo": [], "twin": [],
    }),
    ("lines", "Line"): ((), ["rule", "payloads", "sent", "came", "answers", "waiting"], {
        "__init__": ["rule"], "__len__": [], "send": ["payload"], "spoil": ["change"], "undo": [], "tell": [],
    }),
    ("lines", "StrictLine"): (("Line",), [], {}),
    ("lines", "CappedLine"): (("Line",), ["most"], {"__init__": ["rule", "most"]}),
    ("lines", "StrictCappedLine"): (("CappedLine", "StrictLine"), [], {}),
}

LIBRARY = {"math": ["gcd"]}

BARRED = (ast.Import, ast.AsyncFunctionDef, ast.Await, ast.Div)


def sources():
    return sorted(PACKAGE.glob("**/*.py"))


def class_body(name, own):
    """The statement that defines a class in a file of the package."""
    tree = ast.parse((PACKAGE / (name + ".py")).read_text())
    return [part for part in tree.body if isinstance(part, ast.ClassDef) and part.name == own][0]


class TestInterface(unittest.TestCase):
    def test_functions_are_defined_in_their_files(self):
        for name, functions in INTERFACE.items():
            tree = ast.parse((PACKAGE / (name + ".py")).read_text())
            found = {
                part.name: [arg.arg for arg in part.args.args] for part in tree.body if isinstance(part, ast.FunctionDef)
            }
            for function, arguments in functions.items():
                self.assertEqual(found.get(function), arguments, function)

    def test_classes_are_defined_in_their_files(self):
        for (name, own), (bases, properties, methods) in CLASSES.items():
            found = class_body(name, own)
            self.assertEqual(tuple(base.id for base in found.bases), bases)
            told = {part.name: part for part in found.body if isinstance(part, ast.FunctionDef)}
            for one in properties:
                self.assertEqual([mark.id for mark in told[one].decorator_list], ["property"], one)
            for one, arguments in methods.items():
                rest = [arg.arg for arg in told[one].args.args][1:]
                self.assertEqual(len(rest) if arguments == 1 else rest, arguments, one)
                self.assertEqual(told[one].decorator_list, [], one)

    def test_static_and_class_methods_of_a_line(self):
        told = {part.name: part for part in class_body("lines", "Line").body if isinstance(part, ast.FunctionDef)}
        self.assertEqual([mark.id for mark in told["is_valid"].decorator_list], ["staticmethod"])
        self.assertEqual([arg.arg for arg in told["is_valid"].args.args], ["value"])
        self.assertEqual([mark.id for mark in told["read"].decorator_list], ["classmethod"])
        self.assertEqual([arg.arg for arg in told["read"].args.args][1:], ["text"])

    def test_values_of_classes(self):
        body = class_body("lines", "Line").body
        values = {part.targets[0].id: part.value.value for part in body if isinstance(part, ast.Assign)}
        self.assertEqual(values, {"KINDS": 3})
        defaults = [part.args.defaults for part in class_body("lines", "CappedLine").body if hasattr(part, "args")]
        self.assertEqual([one.value for row in defaults for one in row], [40])


class TestLanguage(unittest.TestCase):
    def test_sizes_and_characters(self):
        self.assertTrue(sources())
        for file in sources():
            text = file.read_text()
            self.assertTrue(all(char == "\n" or " " <= char <= "~" for char in text), file)
            lines = text.split("\n")
            self.assertLessEqual(len(lines), 400, file)
            self.assertLessEqual(max(len(line) for line in lines), 120, file)

    def test_functions_are_small(self):
        for file in sources():
            for part in ast.walk(ast.parse(file.read_text())):
                if isinstance(part, ast.FunctionDef):
                    self.assertLessEqual(part.end_lineno - part.lineno + 1, 40, part.name)

    def test_module_level(self):
        for file in sources():
            for at, part in enumerate(ast.parse(file.read_text()).body):
                docstring = at == 0 and isinstance(part, ast.Expr) and isinstance(part.value, ast.Constant)
                plain = isinstance(part, (ast.ImportFrom, ast.FunctionDef, ast.ClassDef))
                self.assertTrue(docstring or plain or self.is_constant(part), file)

    def is_constant(self, part):
        """Whether a statement gives one name a plain value that nobody can change."""
        if not isinstance(part, ast.Assign) or len(part.targets) != 1 or not isinstance(part.targets[0], ast.Name):
            return False
        return isinstance(ast.literal_eval(part.value), (int, str, tuple))

    def test_imports_and_barred_parts(self):
        for file in sources():
            for part in ast.walk(ast.parse(file.read_text())):
                self.assertNotIsInstance(part, BARRED, file)
                if isinstance(part, ast.ImportFrom):
                    names = [alias.name for alias in part.names]
                    own = part.module.startswith("onlyflags.")
                    self.assertTrue(part.level == 0 and (own or names == LIBRARY.get(part.module)), file)

    def test_no_two_files_import_from_each_other(self):
        imports = {}
        for file in sources():
            parts = ast.walk(ast.parse(file.read_text()))
            found = [part.module for part in parts if isinstance(part, ast.ImportFrom)]
            imports["onlyflags." + file.stem] = [name for name in found if name not in LIBRARY]
        left = dict(imports)
        while left:
            free = [name for name in left if not any(other in left for other in left[name])]
            self.assertTrue(free, left)
            left = {name: left[name] for name in left if name not in free}

    def test_the_folder_holds_python_files_only(self):
        for file in PACKAGE.iterdir():
            self.assertTrue(file.suffix == ".py" or file.name == "__pycache__", file)


if __name__ == "__main__":
    unittest.main()
