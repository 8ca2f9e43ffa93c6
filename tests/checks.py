"""A base for tests of modules."""

import unittest

from helper import made_of, marked, outcome, values_of


class ModuleCase(unittest.TestCase):
    def check_values(self, text, *values, artifacts=None, fuel=100000):
        """The module gives these values."""
        self.assertEqual(values_of(text, artifacts=artifacts, fuel=fuel), list(values), text)

    def check_error(self, code, text, artifacts=None, module="m"):
        """Compiling is an ExpandError with the occurrence that is marked with ^."""
        clean, place = marked(text)
        told = outcome(made_of, clean, "m", artifacts)
        self.assertEqual(told, ("ExpandError", code, (module, place)), text)

    def check_compiles(self, text, artifacts=None):
        return made_of(marked(text)[0], "m", artifacts)

    def check_run_error(self, code, text, artifacts=None):
        clean, place = marked(text)
        told = outcome(values_of, clean, "m", artifacts)
        self.assertEqual(told, ("RunError", code, ("m", place)), text)
