"""The interface: each name stands in its own file, with its parameters, and each method in its own class."""

import importlib
import inspect
import unittest

FUNCTIONS = {
    "fewersteps.base.streams": {"is_name": "value", "is_signs": "value"},
    "fewersteps.books.program": {"is_places": "streams value"},
}
CLASSES = {
    ("fewersteps.base.streams", "Streams"): {
        "__init__": "self sources sinks",
        "signs_of": "self name",
        "is_source": "self name",
        "index_of": "self name",
        "is_content": "self value",
        "is_filling": "self value",
        "steps_of": "self content filling",
        "contents": "self many",
        "count": "self many",
        "renamed": "self names",
        "without": "self name",
        "__add__": None,
        "__contains__": None,
        "__len__": None,
        "__eq__": None,
        "__str__": None,
    },
    ("fewersteps.books.program", "Program"): {
        "__init__": "self streams places",
        "ended": "self place",
        "is_of_use": "self place",
        "is_plain": "self",
        "is_total": "self",
        "with_place": "self place value",
        "ordered": "self",
        "trimmed": "self",
        "is_trimmed": "self",
        "renamed": "self names",
        "exchanged": "self name one other",
        "__getitem__": None,
        "__len__": None,
        "__eq__": None,
        "__str__": None,
    },
}
CLASS_METHODS = {
    ("fewersteps.books.program", "Program"): {
        "nothing": "streams",
        "reading": "streams",
        "copying": "streams source sink",
    },
}
PROPERTIES = {
    ("fewersteps.base.streams", "Streams"): ("sources", "sinks", "names"),
    ("fewersteps.books.program", "Program"): ("streams", "places", "size"),
}


def parameters(function):
    """The names of the parameters, with blanks between them."""
    return " ".join(inspect.signature(function).parameters)


class TestInterface(unittest.TestCase):
    def test_functions(self):
        for module, names in FUNCTIONS.items():
            for name, expected in names.items():
                function = getattr(importlib.import_module(module), name)
                self.assertEqual([function.__module__, parameters(function)], [module, expected], name)

    def test_methods(self):
        for (module, name), methods in CLASSES.items():
            made = getattr(importlib.import_module(module), name)
            self.assertEqual(made.__module__, module)
            for method, expected in methods.items():
                self.assertIn(method, vars(made))
                if expected is not None:
                    self.assertEqual(parameters(vars(made)[method]), expected, method)

    def test_class_methods(self):
        for (module, name), methods in CLASS_METHODS.items():
            made = getattr(importlib.import_module(module), name)
            for method, expected in methods.items():
                self.assertIsInstance(vars(made)[method], classmethod)
                self.assertEqual(parameters(getattr(made, method)), expected)

    def test_properties(self):
        for (module, name), properties in PROPERTIES.items():
            made = getattr(importlib.import_module(module), name)
            for name in properties:
                self.assertIsInstance(vars(made)[name], property)


if __name__ == "__main__":
    unittest.main()
