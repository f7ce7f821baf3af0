"""Promise [17]: names, arguments and files of the interface; and the size of the package's files."""

import ast
import importlib
import inspect
import pathlib
import unittest

from anyhands.roster import Roster

LIBRARY = ("collections", "heapq", "itertools", "math")
PACKAGE = pathlib.Path(__file__).resolve().parent.parent / "anyhands"

FUNCTIONS = {
    "lots": {
        "is_lot": ["thing"], "made_lot": ["hours", "errands"], "hours_of": ["lot"], "all_work": ["lot"],
        "work_in": ["lot", "first", "last"], "behind": ["lot"], "joined": ["lot", "hour"], "put_in": ["lot", "hour"],
        "added": ["one", "other"], "times_over": ["lot", "many"],
    },
    "tables": {
        "is_stretch": ["hours", "thing"], "all_stretches": ["hours"], "lies_within": ["one", "other"],
        "asked": ["lot", "first", "last"], "table_of": ["lot"], "singles": ["hours", "table"],
        "lot_of": ["hours", "table"], "is_table": ["hours", "thing"],
    },
    "calendars": {
        "is_calendar": ["hours", "thing"], "hands_in": ["calendar", "first", "last"],
        "short_stretches": ["lot", "calendar"], "full_stretches": ["lot", "calendar"], "is_done": ["lot", "calendar"],
        "undone": ["lot", "calendar"], "lacking": ["lot", "calendar"], "is_lacking": ["lot", "calendar", "thing"],
        "doing": ["lot", "calendar"], "done_by": ["rows"], "left_by": ["lot", "rows"],
        "is_doing": ["lot", "calendar", "thing"], "helpful": ["lot", "calendar"],
    },
    "order": {
        "never_more": ["one", "other"], "compare": ["one", "other"], "over": ["one", "other"],
        "heavy_calendar": ["one", "other"], "is_heavy_calendar": ["one", "other", "thing"],
        "heavy_prices": ["one", "other"], "is_heavy_prices": ["one", "other", "thing"],
        "always_lightest": ["lots"], "always_heaviest": ["lots"], "unbeaten": ["lots"],
    },
    "prices": {
        "is_prices": ["hours", "thing"], "expense": ["calendar", "prices"], "cheapest": ["lot", "prices"],
        "cheapest_hands": ["lot", "prices"], "is_cheapest": ["lot", "prices", "thing"], "asked_of": ["lot", "some"],
        "levels": ["lot", "prices"], "excess": ["one", "other", "most=1"], "excess_hours": ["one", "other"],
        "never_dearer_in": ["one", "other", "order"], "how_many_orders": ["one", "other"],
        "rise": ["lot", "prices", "hour"], "fall": ["lot", "prices", "hour"],
    },
    "moves": {
        "is_move": ["hours", "thing"], "moved": ["lot", "move", "many=1"], "open_moves": ["lot"],
        "one_move": ["lot", "goal"], "path_between": ["lot", "goal"], "is_path": ["lot", "goal", "thing"],
        "just_lighter": ["lot"], "just_heavier": ["lot"], "is_just_lighter": ["one", "other"],
    },
    "late": {
        "lateness": ["lot", "calendar", "after"], "done_late": ["lot", "calendar", "after", "late"],
        "late_stretches": ["lot", "calendar", "after"], "finish": ["lot", "calendar", "after"],
        "least_after": ["lot", "calendar", "late"], "longer": ["lot", "late"], "never_later": ["one", "other"],
        "later_calendar": ["one", "other"], "is_later_calendar": ["one", "other", "thing"],
    },
    "hands": {
        "least_times": ["lot", "weights"], "even_hands": ["lot"], "tightest": ["lot"], "slack": ["lot", "calendar"],
        "is_least": ["lot", "calendar"], "thinned": ["lot", "calendar"], "least_by": ["lot", "order"],
        "hands_range": ["lot", "first", "last"], "hour_range": ["lot", "hour"], "all_least": ["lot"],
        "how_many_least": ["lot"], "nth_least": ["lot", "number"], "number_least": ["lot", "calendar"],
        "most_undone": ["one", "other"], "undone_calendar": ["one", "other"],
        "is_undone_calendar": ["one", "other", "thing"],
    },
    "ranges": {
        "is_ranges": ["hours", "thing"], "is_within": ["ranges", "thing"], "can_be_done": ["lot", "ranges"],
        "surely_done": ["lot", "ranges"], "undone_within": ["lot", "ranges"],
        "least_hands_within": ["lot", "ranges", "first", "last"], "calendar_within": ["lot", "ranges", "first", "last"],
        "against_within": ["one", "other", "ranges"], "never_more_within": ["one", "other", "ranges"],
        "is_against_within": ["one", "other", "ranges", "thing"],
    },
    "telling": {
        "weights_of": ["prices"], "seen": ["prices"], "prices_of": ["hours", "weights"], "fewest_rows": ["hours"],
        "telling_rows": ["hours", "most"], "bills_of": ["lot", "rows"], "lot_by_bills": ["hours", "most", "bills"],
        "unseen": ["hours", "rows"], "blind_pair": ["hours", "rows"], "is_blind_pair": ["hours", "rows", "thing"],
    },
    "texts": {
        "lot_text": ["lot"], "read_lot": ["text"], "numbers_text": ["numbers"], "read_numbers": ["text"],
        "ranges_text": ["ranges"], "read_ranges": ["text"], "sheet_text": ["sheet"], "read_sheet": ["text"],
    },
    "desk": {"replies": ["text"]},
}

METHODS = {
    "__init__": ["hours"], "add": ["first", "last", "work"], "remove": ["first", "last", "work"],
    "hire": ["hour", "hands"], "fire": ["hour", "hands"], "pass_hour": [], "back": [], "twin": [], "hours": [],
    "now": [], "lot": [], "finished": [], "missed": [], "calendar": [], "ahead": [], "is_safe": [], "will_miss": [],
    "first_short": [], "tight": [], "room": ["first", "last"], "spare": ["hour"], "__len__": [], "__eq__": ["other"],
}


class Interface(unittest.TestCase):

    def test_each_function_is_defined_in_its_file(self):
        for file, functions in FUNCTIONS.items():
            module = importlib.import_module(f"anyhands.{file}")
            rows = ast.parse((PACKAGE / f"{file}.py").read_text()).body
            defined = [row.name for row in rows if isinstance(row, ast.FunctionDef)]
            for name, arguments in functions.items():
                with self.subTest(file=file, name=name):
                    self.assertIn(name, defined)
                    function = getattr(module, name)
                    self.assertEqual(function.__module__, f"anyhands.{file}")
                    told = inspect.signature(function).parameters.values()
                    self.assertEqual([str(argument) for argument in told], arguments)
                    self.assertEqual({argument.kind for argument in told}, {inspect.Parameter.POSITIONAL_OR_KEYWORD})


    def test_each_method_is_defined_in_the_class_itself(self):
        rows = ast.parse((PACKAGE / "roster.py").read_text()).body
        body = [row for row in rows if isinstance(row, ast.ClassDef) and row.name == "Roster"][0].body
        defined = [row.name for row in body if isinstance(row, ast.FunctionDef)]
        self.assertEqual((Roster.__module__, Roster.__bases__), ("anyhands.roster", (object,)))
        for name, arguments in METHODS.items():
            with self.subTest(name=name):
                self.assertIn(name, defined)
                told = list(inspect.signature(getattr(Roster, name)).parameters.values())
                self.assertEqual([str(argument) for argument in told[1:]], arguments)
                self.assertEqual({argument.kind for argument in told}, {inspect.Parameter.POSITIONAL_OR_KEYWORD})


class Files(unittest.TestCase):

    def files(self):
        return [path for path in sorted(PACKAGE.rglob("*")) if "__pycache__" not in path.parts]

    def test_the_folder_holds_files_of_python_alone(self):
        self.assertIn(PACKAGE / "__init__.py", self.files())
        for path in self.files():
            self.assertEqual(path.suffix, ".py", path)

    def test_sizes_and_characters(self):
        for path in self.files():
            text = path.read_text(encoding="utf-8")
            with self.subTest(path.name):
                self.assertTrue(all(sign == "\n" or " " <= sign <= "~" for sign in text))
                self.assertLess(len(text.splitlines()), 400)
                self.assertLessEqual(max(len(row) for row in text.splitlines()), 120)
                for row in ast.walk(ast.parse(text)):
                    if isinstance(row, ast.FunctionDef):
                        self.assertLessEqual(row.end_lineno - row.lineno + 1, 40, row.name)

    def test_imports_are_of_the_package_and_the_library(self):
        for path in self.files():
            for row in ast.walk(ast.parse(path.read_text(encoding="utf-8"))):
                self.assertNotIsInstance(row, ast.Import, path)
                if isinstance(row, ast.ImportFrom):
                    self.assertTrue(row.module.startswith("anyhands.") or row.module in LIBRARY, path)
                    self.assertEqual(row.level, 0, path)


if __name__ == "__main__":
    unittest.main()
