"""What the interface lists exists where it is listed, with the arguments that it names."""

import importlib
import inspect
import unittest

FUNCTIONS = {
    "snapsure.books": {"is_name": "thing", "is_letter": "thing", "look_at_book": "thing", "dealing_by": "book name",
                       "has_many": "book kind"},
    "snapsure.keys": {"is_key": "book thing", "are_keys": "book name thing"},
    "snapsure.texts": {"shown": "book", "read": "text"},
    "snapsure.naming": {"renamed": "book kinds dealings letters", "chosen": "book numbers"},
    "snapsure.places": {"places_of": "book name", "bare_places": "book name", "meets": "one other",
                        "beside": "book name"},
    "snapsure.runs": {"is_run": "book thing", "replayed": "book thing", "standing": "book run"},
    "snapsure.spans": {"spans_of": "book run"},
    "snapsure.ahead": {"must": "book run", "between": "book run"},
    "snapsure.orders": {"order_of": "book run", "ring_of": "book run", "is_order": "book run thing",
                        "is_ring": "book run thing"},
    "snapsure.alone": {"one_by_one": "book run order", "tells_same": "book run order"},
    "snapsure.hooks": {"first_hooks": "book name", "further": "book name hook", "bites": "book name hook",
                       "hanging": "book name"},
    "snapsure.tables": {"is_table": "book thing", "table_of": "book"},
    "snapsure.splits": {"is_split": "book thing"},
    "snapsure.settling": {"settled": "book", "fewest": "book"},
    "snapsure.asks": {"all_picks": "book", "asked": "book picks"},
    "snapsure.askpapers": {"is_ask_paper": "book thing", "ask_paper": "book"},
    "snapsure.parts": {"part_by": "book text", "is_sure": "book text", "least_wrong": "book", "greatest_sure": "book"},
    "snapsure.weavings": {"run_of": "book some weaving", "counts_of": "book some", "first_wrong": "book some"},
}
OF_A_STEPPER = {
    "__init__": "book", "begin": "name keys", "step": "number", "end": "number", "drop": "number", "undo": "",
    "state": "number", "left": "number", "writer": "key", "rows": "", "twin": "", "__len__": "", "__eq__": "other",
    "__str__": ""}
CLASSES = {
    ("snapsure.stepper", "Stepper"): OF_A_STEPPER,
    ("snapsure.watcher", "Watcher"): {**OF_A_STEPPER, "why": "number"},
    ("snapsure.desk", "Desk"): {"__init__": "", "say": "row"},
    ("snapsure.spans", "Span"): {
        "__init__": "first last", "overlaps": "other", "__eq__": "other", "__repr__": "", "__str__": ""},
}


def arguments(told):
    return " ".join(inspect.signature(told).parameters)


class Interface(unittest.TestCase):

    def test_functions(self):
        for module, functions in FUNCTIONS.items():
            for name, words in functions.items():
                with self.subTest(f"{module}.{name}"):
                    function = getattr(importlib.import_module(module), name)
                    self.assertTrue(inspect.isfunction(function))
                    self.assertEqual(function.__module__, module)
                    self.assertEqual(arguments(function), words)

    def test_classes(self):
        for (module, name), methods in CLASSES.items():
            told = getattr(importlib.import_module(module), name)
            self.assertEqual(told.__module__, module)
            for method, words in methods.items():
                with self.subTest(f"{module}.{name}.{method}"):
                    self.assertIn(method, vars(told))
                    self.assertEqual(arguments(vars(told)[method]), f"self {words}".strip())

    def test_none_is_the_default(self):
        renamed = importlib.import_module("snapsure.naming").renamed
        begin = importlib.import_module("snapsure.stepper").Stepper.begin
        self.assertEqual(renamed.__defaults__, (None, None, None))
        self.assertEqual(begin.__defaults__, (None,))
        begin = importlib.import_module("snapsure.watcher").Watcher.begin
        self.assertEqual(begin.__defaults__, (None,))


if __name__ == "__main__":
    unittest.main()
