"""The interface: each name stands in its own file, with its parameters, and each method in its own class."""

import importlib
import inspect
import unittest

FUNCTIONS = {
    "fewersteps.base.streams": {"is_name": "value", "is_signs": "value"},
    "fewersteps.books.program": {"is_places": "streams value"},
    "fewersteps.books.runs": {"number_of_runs": "program content filling", "fillings": "program content"},
    "fewersteps.books.flows": {
        "solid_starts": "program",
        "solid_moves": "program",
        "runs_by_steps": "program many",
        "flow": "program many",
        "short_runs": "program many",
        "fewest_steps": "program",
    },
    "fewersteps.decide.alike": {
        "is_empty": "bag",
        "is_alike": "one other",
        "difference": "bag",
        "is_difference": "bag value",
        "is_least_difference": "bag value",
        "apart": "one other",
        "is_apart": "one other value",
        "short_paper": "one other",
        "is_short_paper": "one other value",
        "alike_classes": "programs",
    },
    "fewersteps.decide.relations": {
        "relations": "programs",
        "rank": "programs",
        "is_relation": "programs value",
        "relation_paper": "programs",
        "is_relation_paper": "programs value",
        "expressed": "programs program",
        "is_independent": "programs",
        "number_table": "programs runs",
    },
    "fewersteps.decide.tables": {
        "is_sum": "bag value",
        "first_sum": "bag",
        "stripped": "bag value",
        "can_lead": "bag value source",
        "led": "bag value source",
        "split": "bag value source",
        "gone_on": "bag value",
        "closed_table": "bag",
        "is_closed_table": "bag value",
    },
    "fewersteps.change.exchanges": {
        "with_exchange": "program exchange",
        "with_exchanges": "program row",
        "possible_exchanges": "program",
        "exchange_row": "program other most",
        "is_exchange_row": "program other value",
    },
    "fewersteps.change.merging": {
        "alike_places": "program",
        "place_difference": "program one other",
        "is_place_difference": "program one other value",
        "slim": "program",
        "merged": "program",
        "apart_paper": "program",
        "is_apart_paper": "program value",
    },
    "fewersteps.build.rules": {
        "kept": "program name rule",
        "first_unparted": "rules",
        "cases": "program name rules",
    },
    "fewersteps.build.pipes": {
        "pipe": "one sink other source",
        "beside": "one other",
        "only": "program sinks",
        "drained": "program name signs",
        "filled": "program source word",
    },
    "fewersteps.build.recipes": {
        "read_recipe": "streams text",
        "is_recipe": "streams value",
        "unrolled": "streams text index",
    },
    "fewersteps.use.depends": {
        "doubled": "program source name",
        "depends": "program sink source",
        "dependence": "program sink source",
        "is_dependence": "program sink source value",
        "copies": "program",
        "blind_signs": "program name",
        "exchangeable": "program",
        "constant": "program sink",
    },
    "fewersteps.text.texts": {
        "write_program": "program",
        "write_words": "words",
        "write_exchange": "exchange",
        "write_row": "row",
        "write_apart": "value",
        "read_program": "streams text",
        "read_words": "text",
        "read_exchange": "text",
        "read_row": "text",
        "read_apart": "text",
    },
}
CLASSES = {
    ("fewersteps.base.streams", "Streams"): {
        "__init__": "self sources sinks",
        "signs_of": "self name",
        "is_source": "self name",
        "index_of": "self name",
        "is_content": "self value",
        "is_filling": "self value",
        "steps_of": "self content filling",
        "contents": "self many",
        "count": "self many",
        "renamed": "self names",
        "without": "self name",
        "__add__": None,
        "__contains__": None,
        "__len__": None,
        "__eq__": None,
        "__str__": None,
    },
    ("fewersteps.books.program", "Program"): {
        "__init__": "self streams places",
        "ended": "self place",
        "is_of_use": "self place",
        "is_plain": "self",
        "is_total": "self",
        "with_place": "self place value",
        "ordered": "self",
        "trimmed": "self",
        "is_trimmed": "self",
        "renamed": "self names",
        "exchanged": "self name one other",
        "__getitem__": None,
        "__len__": None,
        "__eq__": None,
        "__str__": None,
    },
    ("fewersteps.books.runs", "Run"): {
        "__init__": "self program content",
        "is_done": "self",
        "is_lost": "self",
        "go": "self way",
        "go_on": "self",
        "undo": "self many",
        "twin": "self",
        "__len__": None,
        "__eq__": None,
        "__str__": None,
    },
    ("fewersteps.books.runs", "Feeder"): {
        "__init__": "self program",
        "feed": "self source word",
        "end": "self source",
        "is_done": "self",
        "is_lost": "self",
        "undo": "self many",
        "twin": "self",
        "__len__": None,
        "__eq__": None,
        "__str__": None,
    },
    ("fewersteps.algebra.bags", "Bag"): {
        "__init__": "self streams pairs",
        "number": "self content filling",
        "factor": "self program",
        "short_numbers": "self",
        "__add__": None,
        "__sub__": None,
        "__neg__": None,
        "__mul__": None,
        "__rmul__": None,
        "__bool__": None,
        "__len__": None,
        "__contains__": None,
        "__eq__": None,
        "__str__": None,
    },
    ("fewersteps.build.rules", "Rule"): {
        "__init__": "self signs states",
        "__call__": "self word",
        "negated": "self",
        "__contains__": None,
        "__and__": None,
        "__or__": None,
        "__len__": None,
        "__eq__": None,
        "__str__": None,
    },
    ("fewersteps.desk.desk", "Desk"): {
        "__init__": "self streams",
        "enter": "self name program",
        "remove": "self name",
        "exchange": "self name exchange",
        "merge": "self name",
        "pin": "self pin",
        "unpin": "self pin",
        "trial": "self changes",
        "undo": "self many",
        "redo": "self many",
        "compare": "self one other",
        "relations": "self",
        "run": "self name content",
        "twin": "self",
        "__getitem__": None,
        "__iter__": None,
        "__contains__": None,
        "__len__": None,
        "__eq__": None,
        "__str__": None,
    },
    ("fewersteps.text.shell", "Shell"): {
        "__init__": "self streams",
        "__call__": "self command",
        "desk": "self",
        "__len__": None,
        "__str__": None,
    },
}
CLASS_METHODS = {
    ("fewersteps.books.program", "Program"): {
        "nothing": "streams",
        "reading": "streams",
        "copying": "streams source sink",
    },
    ("fewersteps.algebra.bags", "Bag"): {"of": "program", "none": "streams"},
    ("fewersteps.build.rules", "Rule"): {"of_words": "signs words", "counting": "signs counted by rest"},
}
PROPERTIES = {
    ("fewersteps.base.streams", "Streams"): ("sources", "sinks", "names"),
    ("fewersteps.books.program", "Program"): ("streams", "places", "size"),
    ("fewersteps.books.runs", "Run"): ("place", "left", "filling", "steps", "ways", "moves"),
    ("fewersteps.books.runs", "Feeder"): ("came", "has_ended", "result", "waits_for", "place"),
    ("fewersteps.algebra.bags", "Bag"): ("streams", "pairs", "bound", "flow"),
    ("fewersteps.build.rules", "Rule"): ("signs", "states"),
    ("fewersteps.desk.desk", "Desk"): ("streams", "programs", "pins", "heads"),
}
CONSTANTS = {
    ("fewersteps.base.streams", "MAX_WORD"): 200,
    ("fewersteps.books.program", "MAX_WRITTEN"): 24,
    ("fewersteps.books.program", "MAX_PLACES"): 80,
    ("fewersteps.books.flows", "MAX_FLOW"): 20000,
    ("fewersteps.decide.tables", "MAX_ROWS"): 200,
    ("fewersteps.decide.tables", "MAX_REST"): 20,
    ("fewersteps.build.rules", "MAX_STATES"): 6,
    ("fewersteps.build.recipes", "MAX_WORDS"): 400,
    ("fewersteps.build.recipes", "MAX_DEPTH"): 12,
    ("fewersteps.desk.desk", "MAX_PROGRAMS"): 6,
    ("fewersteps.desk.desk", "MAX_PINS"): 8,
}
KEYWORDS = (
    ("fewersteps.books.runs", "Run", "undo", {"many": 1}),
    ("fewersteps.books.runs", "Feeder", "undo", {"many": 1}),
    ("fewersteps.change.exchanges", None, "exchange_row", {"most": 2}),
    ("fewersteps.desk.desk", "Desk", "undo", {"many": 1}),
    ("fewersteps.desk.desk", "Desk", "redo", {"many": 1}),
)


def parameters(function):
    """The names of the parameters, with blanks between them."""
    return " ".join(inspect.signature(function).parameters)


class TestInterface(unittest.TestCase):
    def test_functions(self):
        for module, names in FUNCTIONS.items():
            for name, expected in names.items():
                function = getattr(importlib.import_module(module), name)
                self.assertEqual([function.__module__, parameters(function)], [module, expected], name)

    def test_methods(self):
        for (module, name), methods in CLASSES.items():
            made = getattr(importlib.import_module(module), name)
            self.assertEqual(made.__module__, module)
            for method, expected in methods.items():
                self.assertIn(method, vars(made))
                if expected is not None:
                    self.assertEqual(parameters(vars(made)[method]), expected, method)

    def test_class_methods(self):
        for (module, name), methods in CLASS_METHODS.items():
            made = getattr(importlib.import_module(module), name)
            for method, expected in methods.items():
                self.assertIsInstance(vars(made)[method], classmethod)
                self.assertEqual(parameters(getattr(made, method)), expected)

    def test_properties(self):
        for (module, name), properties in PROPERTIES.items():
            made = getattr(importlib.import_module(module), name)
            for name in properties:
                self.assertIsInstance(vars(made)[name], property)

    def test_constants(self):
        for (module, name), value in CONSTANTS.items():
            self.assertEqual(getattr(importlib.import_module(module), name), value)

    def test_keywords(self):
        for module, name, method, expected in KEYWORDS:
            holder = importlib.import_module(module)
            function = getattr(getattr(holder, name) if name else holder, method)
            found = inspect.signature(function).parameters.values()
            self.assertEqual({at.name: at.default for at in found if at.kind is at.KEYWORD_ONLY}, expected)


if __name__ == "__main__":
    unittest.main()
