"""The package as a whole: the points [1] and [2], and the names and arguments of the interface."""

import ast
import importlib
import inspect
import pathlib
import unittest

import tablestore

FOLDER = pathlib.Path(tablestore.__file__).parent

# The files of each stage, from the first on.
STAGES = [
    ["errors", "values", "shapes"],
    ["ordered", "balance"],
    ["tables", "states"],
    ["stores", "dealings"],
    ["records", "journals"],
    ["words", "piles", "asking", "showing", "checking"],
    ["conditions", "plans", "costs", "doing"],
    ["answers", "desk"],
]

# Of each file its functions, and its classes that can be made, with their arguments.
FUNCTIONS = {
    "values": {
        "is_value": ["thing"], "kind_of": ["value"], "compare": ["one", "other"], "written": ["value"],
        "read_value": ["line"], "read_values": ["line"],
    },
    "shapes": {
        "is_name": ["thing"], "is_shape": ["thing"], "column_place": ["shape", "column"], "fits": ["shape", "row"],
    },
    "ordered": {
        "comes_ahead": ["one", "other"], "empty_index": [], "entries_of": ["index"], "many_in": ["index"],
        "has_entry": ["index", "value", "number"], "stretch": ["index", "low", "high"], "is_index": ["thing"],
    },
    "balance": {
        "with_entry": ["index", "value", "number"], "without_entry": ["index", "value", "number"],
        "index_from": ["entries"],
    },
    "tables": {
        "Table": ["shape", "rows", "indexes"], "new_table": ["shape"], "with_row": ["table", "number", "row"],
        "without_row": ["table", "number"], "with_index": ["table", "column"], "is_table": ["thing"],
        "numbers_of": ["table"],
    },
    "states": {
        "changed": ["state", "change"], "all_changed": ["state", "changes"], "is_state": ["state"],
        "key_of": ["change"],
    },
    "stores": {"Store": [], "begin": ["store"], "store_of": ["rows"]},
    "dealings": {"keys_of": ["changes"], "meets": ["changes", "rows"]},
    "records": {"change_text": ["change"], "read_change": ["line"], "record": ["changes"]},
    "journals": {"read_records": ["text"], "ends_in": ["text"], "log_of": ["store"], "risen": ["text"]},
    "words": {"word_at": ["text", "place"]},
    "asking": {"read": ["text"], "fault_in": ["text"]},
    "showing": {"shown": ["tree"], "condition_text": ["condition"], "columns_of": ["tree"], "cells_of": ["condition"]},
    "checking": {"bound": ["tree", "shapes"]},
    "conditions": {
        "parts_of": ["condition"], "speaks_of": ["condition"], "value_by": ["tree", "state", "numbers", "side"],
        "holds": ["tree", "state", "numbers", "condition"],
    },
    "plans": {"bounds_of": ["tree", "k", "place"], "ways": ["tree", "state", "k"], "plans": ["tree", "state"]},
    "costs": {
        "guess": ["plan", "tree", "state"], "cost": ["plan", "tree", "state"], "chosen": ["tree", "state"],
    },
    "doing": {
        "tuples_of": ["plan", "tree", "state"], "doings": ["plan", "tree", "state"],
        "answer_by": ["plan", "tree", "state"], "answer": ["tree", "state"],
    },
    "answers": {"answer_text": ["values"], "refusal_text": ["error"]},
    "desk": {"Desk": [], "answered": ["text"]},
}

# The methods of classes, each with its arguments behind self.
METHODS = {
    ("stores", "Store"): {"many": [], "changes": ["k"], "state": ["k"], "newest": [], "greatest": []},
    ("dealings", "Dealing"): {
        "start": [], "view": [], "mine": [], "make": ["shape"], "order_by": ["table", "column"],
        "put": ["table", "row"],
        "change": ["table", "number", "row"], "drop": ["table", "number"], "leave": [], "keep": [],
    },
    ("desk", "Desk"): {"say": ["row"], "log": []},
}


def imports_of(path):
    """The modules that a file draws from, and every other import it has, as a text."""
    drawn = []
    for node in ast.walk(ast.parse(path.read_text())):
        if isinstance(node, ast.ImportFrom) and node.level == 0:
            drawn.append(node.module)
        elif isinstance(node, (ast.Import, ast.ImportFrom)):
            drawn.append(ast.unparse(node))
    return drawn


class Package(unittest.TestCase):
    def test_each_function_has_its_arguments(self):
        for name, functions in FUNCTIONS.items():
            module = importlib.import_module("tablestore." + name)
            for function, arguments in functions.items():
                told = inspect.signature(getattr(module, function)).parameters
                self.assertEqual(list(told), arguments, function)

    def test_each_method_has_its_arguments(self):
        for (name, owner), methods in METHODS.items():
            owner = getattr(importlib.import_module("tablestore." + name), owner)
            for method, arguments in methods.items():
                told = inspect.signature(getattr(owner, method)).parameters
                self.assertEqual(list(told), ["self"] + arguments, method)

    def test_the_package_itself_draws_from_nothing(self):
        self.assertEqual(imports_of(FOLDER / "__init__.py"), [])

    def test_a_file_draws_from_its_own_stage_and_those_ahead_alone(self):
        ahead = []
        for files in STAGES:
            ahead.extend(["tablestore." + name for name in files])
            for name in files:
                path = FOLDER / (name + ".py")
                for module in imports_of(path):
                    self.assertIn(module, ahead, path)

    def test_every_file_belongs_to_a_stage(self):
        known = ["__init__"] + [name for files in STAGES for name in files]
        for path in FOLDER.glob("*.py"):
            self.assertIn(path.stem, known)


if __name__ == "__main__":
    unittest.main()
