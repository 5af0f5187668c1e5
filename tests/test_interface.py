"""The names, arguments and places of the interface, as far as it has landed."""
import importlib
import inspect
import unittest

FUNCTIONS = {
    "rows": {"combine": "(rows, factors, *, width)"},
    "claims": {"keeps": "(row, claim)"},
    "stairs": {"staircase": "(rows, *, width)", "remainder": "(row, steps)"},
}
CLASSES = {
    "machines": {"Machine": {
        "__init__": "(self, letters, rows, good=None)", "after": "(self, text)", "first_text": "(self)",
        "how_many": "(self, length)", "texts": "(self, length)", "rounds": "(self)", "beginnings": "(self)",
        "unending": "(self)", "__and__": "(self, other)", "__or__": "(self, other)", "__sub__": "(self, other)",
        "__invert__": "(self)", "__rshift__": "(self, other)", "__contains__": "(self, text)",
        "__eq__": "(self, other)"}},
    "countsets": {"CountSet": {
        "__init__": "(self, width, *, start=None, steps=())", "within": "(self, other)", "rounds": "(self)",
        "coordinates": "(self, row)", "holds": "(self, claim)", "claims": "(self)", "__add__": "(self, other)",
        "__or__": "(self, other)", "__mul__": "(self, other)", "__contains__": "(self, row)",
        "__eq__": "(self, other)"}},
    "grammars": {"Grammar": {"__init__": "(self, width, names, rules)", "rules_of": "(self, name)"}},
}


class Interface(unittest.TestCase):
    def test_functions_stand_in_their_files(self):
        for file, names in FUNCTIONS.items():
            module = importlib.import_module(f"signedpacts.{file}")
            for name, signature in names.items():
                function = getattr(module, name)
                self.assertEqual(function.__module__, module.__name__)
                self.assertEqual(str(inspect.signature(function)), signature)

    def test_methods_stand_in_their_classes(self):
        for file, names in CLASSES.items():
            module = importlib.import_module(f"signedpacts.{file}")
            for name, methods in names.items():
                kind = getattr(module, name)
                self.assertEqual(kind.__module__, module.__name__)
                for method, signature in methods.items():
                    self.assertEqual(str(inspect.signature(vars(kind)[method])), signature)

    def test_generator_property_and_class_method(self):
        from signedpacts.countsets import CountSet
        from signedpacts.machines import Machine
        self.assertTrue(inspect.isgeneratorfunction(Machine.texts))
        self.assertIsInstance(vars(CountSet)["rank"], property)
        self.assertIsInstance(vars(CountSet)["around"], classmethod)
        self.assertEqual(str(inspect.signature(CountSet.around)), "(width, rows)")

    def test_start_and_steps_are_passed_by_keyword(self):
        from signedpacts.countsets import CountSet
        with self.assertRaises(TypeError):
            CountSet(1, (0,), ())
