"""Some of the rules of the language of the package, as far as they are easily told from its syntax."""

import ast
import os
import unittest

FOLDER = os.path.join(os.path.dirname(os.path.dirname(os.path.abspath(__file__))), "heldnames")
BUILTINS = {
    "len", "range", "enumerate", "zip", "min", "max", "sum", "abs", "sorted", "reversed", "int", "str", "bool", "list",
    "tuple", "dict", "set", "isinstance", "ord", "repr", "any", "all", "divmod", "super", "ValueError", "iter",
}
METHODS = {
    "append", "clear", "copy", "count", "endswith", "extend", "find", "get", "index", "insert", "items", "join", "keys",
    "pop", "remove", "replace", "reverse", "setdefault", "split", "startswith", "strip", "update", "values",
}
BARRED = (
    ast.Global, ast.AsyncFunctionDef, ast.Await, ast.GeneratorExp, ast.Yield, ast.YieldFrom, ast.AnnAssign, ast.Set,
    ast.Import, ast.With, ast.Div,
)
INTERFACE = {
    "errors": [
        "HeldError", "InvalidList", "InvalidItem", "InvalidProgram", "InvalidWord", "InvalidPlace", "InvalidRun",
        "InvalidCells", "InvalidText", "InvalidName", "TakenName", "UnknownName", "NothingToUndo",
    ],
    "programs": ["Program", "places", "step_at"],
    "runs": ["is_run", "next_events", "stack_of", "holders_of", "cells_of"],
    "cells": ["met", "run_to", "ways_out", "table", "is_table"],
    "asked": ["writers", "idle", "muted"],
    "taken": ["apart", "takes", "gives"],
    "spared": ["spared"],
    "pairs": ["first_unlike"],
    "begun": ["bare_from", "says_from", "begun"],
    "live": ["Live"],
    "texts": ["text_of", "read_program"],
    "library": ["Library"],
}
METHODS_LISTED = {
    ("programs", "Program"): ["names", "worths", "functions", "__eq__"],
    ("live", "Live"): ["rewrite", "mute", "shown", "met", "idle", "back", "log", "copy", "__eq__"],
    ("library", "Library"): [
        "put", "drop", "change", "program", "cells_of", "names", "quiet", "alike", "back", "log", "copy", "__len__",
        "__contains__", "__iter__", "__eq__",
    ],
}


def files():
    for name in sorted(os.listdir(FOLDER)):
        if name != "__pycache__":
            with open(os.path.join(FOLDER, name), encoding="utf-8") as file:
                yield name, file.read()


class Language(unittest.TestCase):
    def test_files_and_sizes(self):
        for name, text in files():
            self.assertRegex(name, r"^[a-z_]+\.py$")
            lines = text.split("\n")
            self.assertLessEqual(len(lines), 399, name)
            self.assertLessEqual(max(len(line) for line in lines), 120, name)
            self.assertEqual([sign for sign in text if sign != "\n" and not " " <= sign <= "~"], [], name)
            for node in ast.walk(ast.parse(text)):
                if isinstance(node, ast.FunctionDef):
                    self.assertLessEqual(node.end_lineno - node.lineno + 1, 40, node.name)

    def test_statements(self):
        for name, text in files():
            tree = ast.parse(text)
            for node in tree.body:
                allowed = isinstance(node, (ast.ImportFrom, ast.FunctionDef, ast.ClassDef, ast.Assign))
                self.assertTrue(allowed or isinstance(node, ast.Expr) and isinstance(node.value, ast.Constant), name)
            for node in ast.walk(tree):
                self.assertNotIsInstance(node, BARRED, f"{name}: {getattr(node, 'lineno', 0)}")
                if isinstance(node, ast.FunctionDef):
                    self.assertEqual(node.decorator_list, [])
                if isinstance(node, ast.Compare):
                    for sign, right in zip(node.ops, node.comparators):
                        if isinstance(sign, (ast.Is, ast.IsNot)):
                            self.assertIn(getattr(right, "value", "other"), (None, True, False))

    def test_imports(self):
        for name, text in files():
            for node in ast.walk(ast.parse(text)):
                if isinstance(node, ast.ImportFrom):
                    self.assertEqual(node.level, 0)
                    self.assertTrue(node.module.startswith("heldnames.") or node.module in ("heapq", "math"), name)
                    self.assertEqual([alias.asname for alias in node.names if alias.asname], [])

    def test_calls(self):
        own = set(METHODS)
        trees = [(name, ast.parse(text)) for name, text in files()]
        for _, tree in trees:
            own |= {node.name for node in ast.walk(tree) if isinstance(node, (ast.FunctionDef, ast.ClassDef))}
        for name, tree in trees:
            for node in ast.walk(tree):
                if isinstance(node, ast.Call) and isinstance(node.func, ast.Name):
                    self.assertIn(node.func.id, own | BUILTINS | {"heappush", "heappop"}, name)
                if isinstance(node, ast.Call) and isinstance(node.func, ast.Attribute):
                    self.assertIn(node.func.attr, own | {"__init__"}, name)

    def test_methods_and_attributes_are_told_apart(self):
        for name, text in files():
            for node in ast.walk(ast.parse(text)):
                if isinstance(node, ast.ClassDef):
                    methods = {part.name for part in node.body if isinstance(part, ast.FunctionDef)}
                    stored = {
                        part.attr for part in ast.walk(node)
                        if isinstance(part, ast.Attribute) and isinstance(part.ctx, ast.Store)
                    }
                    self.assertEqual(methods & stored, set(), name)

    def test_interface_is_defined_where_it_is_listed(self):
        texts = dict(files())
        for module, names in INTERFACE.items():
            tree = ast.parse(texts[module + ".py"])
            defined = [node.name for node in tree.body if isinstance(node, (ast.FunctionDef, ast.ClassDef))]
            self.assertEqual([name for name in names if name not in defined], [])

    def test_methods_are_defined_in_the_class_itself(self):
        texts = dict(files())
        for (module, name), methods in METHODS_LISTED.items():
            [node] = [node for node in ast.parse(texts[module + ".py"]).body if getattr(node, "name", "") == name]
            defined = [part.name for part in node.body if isinstance(part, ast.FunctionDef)]
            self.assertEqual([method for method in methods if method not in defined], [])
            self.assertEqual(len(set(defined)), len(defined))

    def test_only_own_errors_are_caught(self):
        for name, text in files():
            for node in ast.walk(ast.parse(text)):
                if isinstance(node, ast.Try):
                    self.assertEqual(node.finalbody, [])
                    for handler in node.handlers:
                        caught = handler.type.elts if isinstance(handler.type, ast.Tuple) else [handler.type]
                        others = [error.id for error in caught if error.id not in INTERFACE["errors"]]
                        self.assertEqual(others, [], name)

    def test_no_methods_are_attributes_elsewhere(self):
        trees = [ast.parse(text) for _, text in files()]
        methods, stored = set(), set()
        for tree in trees:
            for node in ast.walk(tree):
                if isinstance(node, ast.ClassDef):
                    methods |= {part.name for part in node.body if isinstance(part, ast.FunctionDef)}
                if isinstance(node, ast.Attribute) and isinstance(node.ctx, ast.Store):
                    stored.add(node.attr)
        self.assertEqual(methods & stored, set())

    def test_names_of_classes_and_imports_are_not_used_again(self):
        for name, text in files():
            tree = ast.parse(text)
            taken = [alias.name for node in tree.body if isinstance(node, ast.ImportFrom) for alias in node.names]
            taken += [node.name for node in tree.body if isinstance(node, ast.ClassDef)]
            self.assertEqual(len(set(taken)), len(taken), name)
            used = [node.arg for node in ast.walk(tree) if isinstance(node, ast.arg)]
            names = [node for node in ast.walk(tree) if isinstance(node, ast.Name)]
            used += [node.id for node in names if not isinstance(node.ctx, ast.Load)]
            self.assertEqual(set(taken) & set(used), set(), name)

    def test_no_files_import_from_each_other(self):
        wanted = {}
        for name, text in files():
            nodes = [node for node in ast.parse(text).body if isinstance(node, ast.ImportFrom)]
            wanted["heldnames." + name[:-3]] = {node.module for node in nodes if node.module.startswith("heldnames")}
        while wanted:
            free = [name for name, modules in wanted.items() if not modules & set(wanted)]
            self.assertNotEqual(free, [], wanted)
            for name in free:
                del wanted[name]


if __name__ == "__main__":
    unittest.main()
