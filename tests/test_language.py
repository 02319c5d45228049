"""Some of the rules for the package's files, those that can be read off them plainly."""

import ast
import unittest
from pathlib import Path

PACKAGE = Path(__file__).resolve().parent.parent / "flowborder"

INTERFACE = {
    "errors.py": [
        "FlowError", "BadProgram", "BadDesign", "BadStart", "NotMade", "NotText", "InvalidText", "NotNow",
        "NothingToUndo",
    ],
    "programs.py": ["is_program"],
    "designs.py": ["is_design"],
    "checker.py": ["fault", "lets_by"],
    "runs.py": ["run"],
    "looks.py": ["alike", "leak"],
    "borders.py": ["lots", "lots_in", "greatest_sound", "fewest_drops", "is_sound", "breaker"],
    "compares.py": ["strengths", "lets_by_all", "sees_all", "parting", "unseen"],
    "texts.py": ["write_program", "read_program"],
    "desks.py": ["Desk"],
}

METHODS = {"__init__": ["self", "design", "program"], "run": ["self", "line"], "undo": ["self"], "design": ["self"]}

PARAMETERS = {
    "is_program": ["value"], "is_design": ["value"], "fault": ["design", "program"],
    "lets_by": ["design", "program"], "run": ["program", "start"], "alike": ["design", "program", "one", "other"],
    "leak": ["design", "program", "start"], "lots": [], "lots_in": ["design"], "greatest_sound": ["design"],
    "fewest_drops": ["design"], "is_sound": ["design"], "breaker": ["design"], "strengths": ["design"],
    "lets_by_all": ["one", "other"], "sees_all": ["one", "other"], "parting": ["one", "other"],
    "unseen": ["one", "other"], "write_program": ["program"], "read_program": ["text"],
}

BUILTINS = {
    "len", "range", "enumerate", "zip", "min", "max", "sum", "abs", "sorted", "reversed", "int", "str", "bool", "list",
    "tuple", "dict", "set", "isinstance", "ord", "repr", "any", "all", "divmod", "super", "property", "ValueError",
}

LIBRARY = {"itertools": ["combinations"]}

AT_MODULE_LEVEL = (ast.ImportFrom, ast.FunctionDef, ast.ClassDef, ast.Assign, ast.Expr)


def files():
    return sorted(PACKAGE.glob("*.py"))


def tree_of(path):
    return ast.parse(path.read_text(encoding="ascii"))


def bound_names(node):
    """The names that a node gives a meaning, if it does."""
    if isinstance(node, (ast.FunctionDef, ast.ClassDef)):
        return [node.name]
    if isinstance(node, ast.arg):
        return [node.arg]
    if isinstance(node, ast.Name) and isinstance(node.ctx, ast.Store):
        return [node.id]
    return []


class Files(unittest.TestCase):
    def test_only_python_files(self):
        others = [path.name for path in PACKAGE.iterdir() if path.suffix != ".py" and path.name != "__pycache__"]
        self.assertEqual(others, [])
        self.assertIn("__init__.py", [path.name for path in files()])

    def test_size_and_characters(self):
        for path in files():
            text = path.read_text(encoding="ascii")
            lines = text.split("\n")
            self.assertLess(len(lines), 400, path.name)
            self.assertLessEqual(max(map(len, lines)), 120, path.name)
            self.assertTrue(all(" " <= sign <= "~" or sign == "\n" for sign in text), path.name)
            for node in ast.walk(tree_of(path)):
                if isinstance(node, ast.FunctionDef):
                    self.assertLessEqual(node.end_lineno - node.lineno + 1, 40, (path.name, node.name))

    def test_imports(self):
        for path in files():
            for node in ast.walk(tree_of(path)):
                self.assertNotIsInstance(node, ast.Import, path.name)
                if isinstance(node, ast.ImportFrom) and node.module in LIBRARY:
                    self.assertEqual([alias.name for alias in node.names], LIBRARY[node.module])
                elif isinstance(node, ast.ImportFrom):
                    self.assertTrue(node.module.startswith("flowborder."), path.name)
                    origin = PACKAGE / (node.module.split(".")[1] + ".py")
                    defined = [name for row in tree_of(origin).body for name in self.defined_by(row)]
                    for alias in node.names:
                        self.assertIn(alias.name, defined, path.name)

    def defined_by(self, row):
        if isinstance(row, ast.Assign):
            return [target.id for target in row.targets]
        return bound_names(row)

    def test_module_level(self):
        for path in files():
            for row in tree_of(path).body:
                self.assertIsInstance(row, AT_MODULE_LEVEL, path.name)
                if isinstance(row, ast.Expr):
                    self.assertIsInstance(row.value, ast.Constant, path.name)
                if isinstance(row, ast.Assign):
                    self.assertFalse([x for x in ast.walk(row) if isinstance(x, ast.Call)], path.name)

    def test_builtins(self):
        python = set(dir(__builtins__)) if not isinstance(__builtins__, dict) else set(__builtins__)
        for path in files():
            for node in ast.walk(tree_of(path)):
                for name in bound_names(node):
                    self.assertNotIn(name, python, path.name)
                if isinstance(node, ast.Name) and node.id in python:
                    self.assertIn(node.id, BUILTINS, path.name)


class Interface(unittest.TestCase):
    def test_each_name_is_defined_in_its_file(self):
        for name, wanted in INTERFACE.items():
            rows = {row.name: row for row in tree_of(PACKAGE / name).body
                    if isinstance(row, (ast.FunctionDef, ast.ClassDef))}
            for word in wanted:
                self.assertIn(word, rows)
                if word in PARAMETERS:
                    found = [arg.arg for arg in rows[word].args.args]
                    self.assertEqual(found, PARAMETERS[word])

    def test_the_methods_stand_in_the_class(self):
        desk = [row for row in tree_of(PACKAGE / "desks.py").body if isinstance(row, ast.ClassDef)][0]
        methods = {row.name: row for row in desk.body if isinstance(row, ast.FunctionDef)}
        for name, wanted in METHODS.items():
            self.assertEqual([arg.arg for arg in methods[name].args.args], wanted)
            decorators = [row.id for row in methods[name].decorator_list]
            self.assertEqual(decorators, ["property"] if name == "design" else [])

    def test_no_two_files_import_from_each_other(self):
        wanted = {}
        for path in files():
            rows = [row for row in tree_of(path).body if isinstance(row, ast.ImportFrom)]
            wanted[path.stem] = {row.module.split(".")[-1] for row in rows if row.module not in LIBRARY}
        while wanted:
            free = [name for name, others in wanted.items() if not others & set(wanted)]
            self.assertTrue(free, wanted)
            for name in free:
                del wanted[name]


if __name__ == "__main__":
    unittest.main()
