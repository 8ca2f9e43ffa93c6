"""The examples of the interface, and those of README.md."""

import doctest
import unittest
from pathlib import Path

README = Path(__file__).resolve().parent.parent / "README.md"

EXAMPLES = r"""
>>> from wherewritten.reading import read
>>> read("(f 'x) ; done")
(('list', (('name', 'f', 1), ('list', (('name', 'quote', 3), ('name', 'x', 4)), 2)), 0),)
>>> from wherewritten.showing import show_text
>>> show_text(read("#'(a ...)"))
'(syntax (a ...))\n'
>>> from wherewritten.resolving import resolve
>>> a, b = ("m", 0, 0), ("m", 1, 0)
>>> table = [(0, "x", (a,), ("local", "m", 1)), (0, "x", (b,), ("local", "m", 2))]
>>> (resolve(table, 0, ("id", "x", ("m", 7), (a,))), resolve(table, 0, ("id", "x", ("m", 7), (a, b))), resolve(table, 1, ("id", "x", ("m", 7), (a,))))
(('bound', 0), ('ambiguous', 0, 1), ('phase',))
>>> from wherewritten.syntax import syntax_of, datum_of
>>> from wherewritten.showing import show
>>> from wherewritten.rules import Rules
>>> form, use = [syntax_of("m", datum, ()) for datum in read("(rules () ((_ (a b ...) ...) (do (b ... a) ...))) (m (1 2 3) (4))")]
>>> show(datum_of(Rules(form).apply(use, lambda one, other: False)))
'(do (2 3 1) (4))'
>>> from wherewritten.evaluating import evaluate
>>> call = ("call", ("prim", "+"), (("const", ("number", 2)), ("const", ("number", 3))), ("m", 0))
>>> evaluate(("if", ("const", ("flag", False)), ("const", ("text", "no")), call), 10)
('5', 6)
>>> from wherewritten.compiling import compile_module
>>> from wherewritten.linking import program, run
>>> text = "(defmac swap (rules () ((_ a b) (let ((t a)) (set a b) (set b t))))) (def t 1) (def u 2) (swap t u) (list t u)"
>>> artifacts = {"m": compile_module("m", text, {}).artifact()}
>>> run(artifacts, "m", 1000)
[('m', '1'), ('m', '(2 1)')]
>>> from wherewritten.calling import called_otherwise
>>> called_otherwise({"m": "(def x 1) (let ((y x)) (list x y))"}, ("m", 2), "z")
{'m': '(def z 1) (let ((y z)) (list z y))'}
>>> text = "(defmac my-let (fn (s) (match s () ((_ ((x e) ...) b) (fill ((fn (x ...) b) e ...)))))) (my-let ((a 1) (b 2)) (list b a))"
>>> run({"m": compile_module("m", text, {}).artifact()}, "m", 100)
[('m', '(2 1)')]
"""


class TestExamples(unittest.TestCase):
    def check(self, text, name):
        test = doctest.DocTestParser().get_doctest(text, {}, name, name, 0)
        self.assertGreater(len(test.examples), 10)
        told = []
        doctest.DocTestRunner(verbose=False).run(test, out=told.append)
        self.assertEqual(told, [])

    def test_interface(self):
        self.check(EXAMPLES, "interface")

    def test_readme(self):
        self.check(README.read_text().replace("```", ""), "README.md")


if __name__ == "__main__":
    unittest.main()
