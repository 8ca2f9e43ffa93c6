"""Compiling is compared with a second version that is as plain as can be."""

import unittest

from helper import fields_of, seeded
from plainly import compile_plainly
from randommodules import RandomModules, WildForms
from samples import ORDER, SAMPLES
from wherewritten.compiling import compile_module
from wherewritten.errors import ReadError, WhereError


def told_of(made):
    return (made.artifact(), made.ready(), made.steps(), made.arrows(), made.links(), made.fixed(), made.begun(), made.scopes(),
            made.table())


class TestAgainstThePlainWay(unittest.TestCase):
    def compare(self, name, text, artifacts):
        """What compiling gives, or None; the plain way gives the same, or the same error."""
        try:
            made = compile_module(name, text, artifacts)
        except WhereError as error:
            with self.assertRaises(type(error), msg=text) as caught:
                compile_plainly(name, text, artifacts)
            self.assertEqual(fields_of(caught.exception), fields_of(error), text)
            self.codes[getattr(error, "code", "read")] = True
            return None
        plain = compile_plainly(name, text, artifacts)
        self.assertEqual(told_of(made), plain.told(), text)
        for occurrence, tale in plain.tales.items():
            self.assertEqual(made.tale(occurrence), tale, text)
        return made

    def setUp(self):
        self.codes = {}

    def test_samples(self):
        artifacts = {}
        for name in ORDER:
            artifacts[name] = self.compare(name, SAMPLES[name], artifacts).artifact()

    def test_random_modules(self):
        rng = seeded(31)
        compiled = 0
        for _ in range(900):
            artifacts = {}
            for name, text in RandomModules(rng).modules().items():
                made = self.compare(name, text, artifacts)
                if made is None:
                    break
                compiled += 1
                artifacts[name] = made.artifact()
        self.assertGreater(compiled, 150)
        self.assertLessEqual({"double", "unbound", "late", "phase", "run match", "steps"}, set(self.codes))

    def test_wild_forms(self):
        rng = seeded(32)
        artifacts = {}
        for name in ("logic", "count"):
            artifacts[name] = compile_module(name, SAMPLES[name], artifacts).artifact()
        compiled = 0
        for _ in range(2500):
            compiled += self.compare("m", WildForms(rng).text(), artifacts) is not None
        self.assertGreater(compiled, 150)
        self.assertLessEqual({"form", "unbound", "place", "word", "double", "set", "module", "run fail", "dots", "phase", "late", "order",
                              "conflict", "macro"}, set(self.codes))

    def test_what_can_not_be_read(self):
        with self.assertRaises(ReadError):
            compile_plainly("m", "(", {})


if __name__ == "__main__":
    unittest.main()
