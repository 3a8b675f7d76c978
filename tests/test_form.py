"""The interface's opening lines, and what of the language's rules shows in the files at once."""

import ast
import importlib
import os
import unittest

import shortdeeds

FOLDER = os.path.dirname(os.path.abspath(shortdeeds.__file__))
INTERFACE = {
    "errors": ("DeedError", "NoPuzzle", "NoStand", "NoWord", "NoNumber", "TooMany", "NoTable", "NoDeed", "NoLine",
               "NoText"),
    "puzzles": ("is_puzzle", "is_stand", "is_word", "home", "behind", "deed_of", "back_of", "plain"),
    "texts": ("show", "read"),
    "ways": ("reached", "least_word", "far", "counts", "farthest", "words"),
    "bounds": ("is_height_paper", "height_paper", "plain_many", "count_bound", "sign", "signs", "is_barred",
               "moved_bound"),
    "halves": ("halves", "met_word", "net_bound", "net_paper"),
    "little": ("moved", "exchange", "turned", "rings", "little_word", "learned"),
    "steps": ("step_places", "is_step_table", "step_table", "led_home", "most_letters"),
    "orders": ("order", "power", "turned_stand", "lot", "turning_word", "can_exchange", "middle"),
    "places": ("place_lots", "is_held_parting", "held_partings", "joining", "keepers"),
    "changes": ("renamed", "with_deed", "without", "beside", "of_words"),
    "desk": ("Desk",),
}
LIBRARY = ("heapq", "math", "itertools", "collections", "__future__")


def names():
    return sorted(name for name in os.listdir(FOLDER) if name != "__pycache__")


def text_of(name):
    with open(os.path.join(FOLDER, name), encoding="utf-8", newline="") as file:
        return file.read()


class Form(unittest.TestCase):

    def test_each_name_is_defined_in_the_file_that_the_interface_tells(self):
        for file, told in INTERFACE.items():
            tree = ast.parse(text_of(file + ".py"))
            defined = [row.name for row in tree.body if isinstance(row, (ast.FunctionDef, ast.ClassDef))]
            module = importlib.import_module("shortdeeds." + file)
            for name in told:
                self.assertIn(name, defined, file)
                self.assertTrue(callable(getattr(module, name)), name)

    def test_the_method_of_the_desk_stands_in_the_body_of_its_class(self):
        rows = {row.name: row for row in ast.parse(text_of("desk.py")).body if isinstance(row, ast.ClassDef)}
        methods = {row.name: row for row in rows["Desk"].body if isinstance(row, ast.FunctionDef)}
        self.assertEqual([told.arg for told in methods["say"].args.args], ["self", "line"])

    def test_the_folder_has_only_files_of_plain_names(self):
        self.assertIn("__init__.py", names())
        for name in names():
            self.assertRegex(name, r"^[a-z_][a-z0-9_]*\.py$")

    def test_sizes_and_signs(self):
        for name in names():
            text = text_of(name)
            self.assertRegex(text, r"^[ -~\n]*\Z", name)
            self.assertLess(len(text.split("\n")), 400 + 1, name)
            self.assertLessEqual(max(map(len, text.split("\n"))), 120, name)
            for row in ast.walk(ast.parse(text)):
                if isinstance(row, ast.FunctionDef):
                    self.assertLessEqual(row.end_lineno - row.lineno + 1, 40, row.name)

    def test_imports(self):
        for name in names():
            for row in ast.walk(ast.parse(text_of(name))):
                self.assertNotIsInstance(row, ast.Import, name)
                if isinstance(row, ast.ImportFrom):
                    self.assertEqual(row.level, 0, name)
                    first = row.module.split(".")[0]
                    self.assertIn(first, LIBRARY + ("shortdeeds",), name)

    def test_no_floats_no_slashes_and_no_percent_signs_in_strings(self):
        for name in names():
            for row in ast.walk(ast.parse(text_of(name))):
                self.assertNotIsInstance(row, ast.Div, name)
                if isinstance(row, ast.Constant):
                    self.assertNotIsInstance(row.value, (float, complex), name)
                    if isinstance(row.value, str):
                        self.assertNotIn("%", row.value, name)


if __name__ == "__main__":
    unittest.main()
