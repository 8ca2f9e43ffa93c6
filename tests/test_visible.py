"""Visible names (point 86)."""

import unittest

from helper import artifacts_of, made_of, spot
from samples import ORDER, SAMPLES
from wherewritten.calling import compile_all
from wherewritten.compiling import compile_module
from wherewritten.resolving import resolve
from wherewritten.terms import primitives
from wherewritten.visible import visible

WORDS = """fn if set let letrec do quote syntax rules letmac recmac def defmac up use offer only except rename as all match fill""".split()
CORE = sorted([*WORDS, *primitives()])


def visible_plainly(made, occurrence):
    """Resolves each name that is bound anywhere, in the whole table."""
    table = [(phase, name, (("core", 0, 0),), ("word", name)) for phase in range(4) for name in CORE]
    table += [row[:4] for row in made.table()]
    names = sorted({row[1] for row in table})
    told = set()
    for phase, scopes, _, _ in made.tale(occurrence):
        told.add((phase, tuple(name for name in names if resolve(table, phase, ("id", name, occurrence, scopes))[0] == "bound")))
    return sorted(told)


class TestVisible(unittest.TestCase):
    def check(self, text, mark, *wanted, artifacts=None, index=0):
        """The names beside those of core, for each phase."""
        made = made_of(text, "m", artifacts)
        occurrence = ("m", spot(text, mark, index))
        told = visible(made, occurrence)
        self.assertEqual(told, visible_plainly(made, occurrence), text)
        self.assertEqual(told, [(phase, tuple(sorted(set(CORE) | set(names)))) for phase, names in wanted], text)

    def test_scopes(self):
        text = "(def x 1) (let ((y 2)) (def z 3) (let ((w 4)) y) z) x (fn (v) v)"
        self.check(text, "y) z", (0, ["x", "y", "z", "w"]))
        self.check(text, "z) x", (0, ["x", "y", "z"]))
        self.check(text, "x (fn", (0, ["x"]))
        self.check(text, "v)", (0, ["x", "v"]), index=1)
        self.check(text, "let", (0, ["x"]))
        self.check(text, "let ((w", (0, ["x", "y", "z"]))
        # What is bound later in the module is there in the whole table.
        self.check("(list 1) (def late 2)", "list", (0, ["late"]))

    def test_what_was_not_resolved(self):
        made = made_of("(def x 1) '5 (let ((y x)) 1)")
        for place in (0, 2, 3, 99):
            self.assertEqual(visible(made, ("m", place)), [])
        self.assertEqual(visible(made, ("k", 1)), [])

    def test_phases(self):
        text = "(def x 1) (up (def y 2) y) (defmac m (fn (s) y)) x"
        self.check(text, "y)", (1, ["y"]))
        self.check(text, "y))", (1, ["y", "s"]))
        self.check(text, "x", (0, ["x", "m"]), index=1)
        # One occurrence at two phases.
        text = "(def x 1) (up (def x 2) (def only-1 3)) (defmac both (rules () ((_ e) (do (def a e) (up (def b e)))))) (both x)"
        self.check(text, "x)", (0, ["x", "both"]), (1, ["x", "only-1"]))

    def test_names_that_macros_put_in(self):
        text = "(defmac m (rules () ((_ e) (let ((t 1)) (list t e))))) (let ((q 2)) (m q))"
        # t is not visible where q was written, and q is where the macro put t in no more than it was.
        self.check(text, "q))", (0, ["m", "q"]))
        self.check(text, "t e", (0, ["m", "t"]))

    def test_ambiguous_names_are_not_visible(self):
        text = """(defmac outer (rules () ((_ inner y) (do (def x 1) (defmac inner (rules () ((_)
            (do (def y 2) (list 5))))))))) (outer in x) (in)"""
        made = made_of(text)
        occurrence = ("m", spot(text, "list 5"))
        told = visible(made, occurrence)
        self.assertEqual(told, visible_plainly(made, occurrence))
        self.assertNotIn("x", told[0][1])

    def test_hidden_words(self):
        self.check("(let ((list 1) (if 2)) list)", "list)", (0, []))
        text = "(use a) (def list 3) (list x)"
        self.check(text, "list x", (0, ["x", "f"]), artifacts=artifacts_of({"a": "(def x 1) (def f 2) (def hidden 3) (offer x f)"}))

    def test_each_pair_once(self):
        # Two sets, with the same names.
        text = "(defmac m (rules () ((_ a) (list a (let () a))))) (m list)"
        made = made_of(text)
        occurrence = ("m", spot(text, "list)"))
        self.assertEqual(len({row[1] for row in made.tale(occurrence)}), 2)
        self.check(text, "list)", (0, ["m"]))

    def test_other_modules(self):
        artifacts = artifacts_of({name: SAMPLES[name] for name in ORDER})
        for name in ORDER:
            made = compile_module(name, SAMPLES[name], artifacts)
            for place in range(0, 200, 9):
                self.assertEqual(visible(made, (name, place)), visible_plainly(made, (name, place)))
        texts = {"a": "(def hidden 1) (defmac get (rules () ((_) hidden))) (offer get)", "b": "(use a) (get)"}
        made = compile_all(texts)[1]
        (told,) = visible(made, ("a", spot(texts["a"], "hidden", 1)))
        self.assertIn("hidden", told[1])
        # Asking changes nothing.
        again = visible(made, ("a", spot(texts["a"], "hidden", 1)))
        self.assertEqual(again, [told])


if __name__ == "__main__":
    unittest.main()
