"""What can be told of the files of the package without calling them."""

import ast
import pathlib
import unittest

PACKAGE = pathlib.Path(__file__).resolve().parent.parent / "threemoods"

LIBRARY = {"heapq", "math", "itertools", "collections"}

# The functions and classes of the interface, by file.
INTERFACE = {
    "errors": (
        "MoodError", "BadWeb", "BadState", "BadFolk", "BadNumber", "BadWalk", "BadStreet",
        "BadOrder", "NotResting", "NotText", "InvalidText", "TooMany",
    ),
    "webs": ("parts", "far"),
    "moods": ("stirred", "tick", "run", "walk_sum"),
    "walks": ("changes", "state_at", "best_walk", "shows_best_walk"),
    "rests": (
        "heights", "winding", "rests", "rest_paper", "judged_rest", "rest_tick", "end", "deciders",
        "sway",
    ),
    "speeds": ("speed", "busy_ring", "speed_paper", "judged_speed"),
    "whens": ("when_changed", "when_mood", "story"),
    "rounds": ("coming_round", "meet", "becomes"),
    "aheads": ("ahead", "eldest", "kin"),
    "alls": (
        "calm_for_all", "longest_rest", "fastest", "fastest_state", "shows_fastest_state",
        "count_resting", "count_by_rest", "all_speeds",
    ),
    "repaints": ("calmed", "stirring"),
    "others": ("with_street", "without_street", "joined", "stretched", "renamed", "likenesses"),
    "seens": ("fits", "sure"),
    "notation": ("write_web", "write_state", "read_web", "read_state"),
    "desk": ("Desk",),
}


def files():
    return sorted(PACKAGE.rglob("*.py"))


def trees():
    return [(path, ast.parse(path.read_text("ascii"))) for path in files()]


class PackageTest(unittest.TestCase):
    def test_the_folder_holds_nothing_but_files_of_python(self):
        for path in PACKAGE.rglob("*"):
            if "__pycache__" not in path.parts:
                self.assertEqual(".py", path.suffix, path)

    def test_characters_and_sizes(self):
        for path in files():
            text = path.read_bytes()
            self.assertTrue(all(sign == 10 or 32 <= sign <= 126 for sign in text), path)
            lines = text.decode("ascii").splitlines()
            self.assertLessEqual(len(lines), 399, path)
            self.assertLessEqual(max(len(line) for line in lines), 120, path)

    def test_functions_are_short(self):
        for path, tree in trees():
            for node in ast.walk(tree):
                if isinstance(node, ast.FunctionDef):
                    self.assertLessEqual(node.end_lineno - node.lineno + 1, 40, (path, node.name))

    def test_imports(self):
        for path, tree in trees():
            for node in ast.walk(tree):
                self.assertNotIsInstance(node, ast.Import, path)
                if isinstance(node, ast.ImportFrom):
                    top = node.module.partition(".")[0]
                    self.assertIn(top, LIBRARY | {"threemoods"}, path)
                    self.assertEqual(0, node.level, path)

    def test_no_division_into_fractions_and_no_floats(self):
        for path, tree in trees():
            for node in ast.walk(tree):
                self.assertNotIsInstance(node, ast.Div, path)
                if isinstance(node, ast.Constant):
                    self.assertNotIsInstance(node.value, float, path)

    def test_the_interface_is_defined_where_it_is_listed(self):
        for name, words in INTERFACE.items():
            tree = ast.parse((PACKAGE / f"{name}.py").read_text("ascii"))
            defined = [
                node.name for node in tree.body if isinstance(node, (ast.FunctionDef, ast.ClassDef))
            ]
            for word in words:
                self.assertIn(word, defined, name)

    def test_methods_and_properties_are_defined_in_their_class(self):
        tree = ast.parse((PACKAGE / "desk.py").read_text("ascii"))
        desk = next(node for node in tree.body if isinstance(node, ast.ClassDef))
        defined = {
            node.name: [ast.unparse(item) for item in node.decorator_list]
            for node in desk.body if isinstance(node, ast.FunctionDef)
        }
        self.assertEqual([], defined["run"])
        self.assertEqual(["property"], defined["state"])
        self.assertEqual(["property"], defined["ticks"])


if __name__ == "__main__":
    unittest.main()
