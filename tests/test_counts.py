"""Counts of arguments (point 70)."""

import unittest

from helper import AT, artifacts_of, call, fn, local, made_of, number, outcome, prim, seeded, spot, values_of
from randommodules import RandomModules
from samples import ORDER, SAMPLES
from wherewritten.calling import compile_all
from wherewritten.counts import miscounts
from wherewritten.errors import WhereError
from wherewritten.terms import primitives
from wherewritten.walking import terms_in

TAKEN = {"not": 1, "first": 1, "rest": 1, "empty?": 1, "list?": 1, "number?": 1, "flag?": 1, "text?": 1, "procedure?": 1, "syntax?": 1,
         "identifier?": 1, "fail": 1, "parts": 1, "datum": 1, "fresh": 1, "local-value": 1}


def miscounts_plainly(artifact):
    """Looks at each call once more, for each of the reasons."""
    name, items = artifact[1], artifact[5]
    written = [term[1][1:4] for item in items for term in terms_in(item[3]) if term[0] == "set" and term[1][0] == "top"]
    found = set()
    for kind, level, _, whole in items:
        for term in terms_in(whole):
            if term[0] != "call":
                continue
            first, many, wanted = term[1], len(term[2]), []
            if first[0] == "fn":
                wanted = [len(first[1])]
            elif first[0] == "prim" and first[1] != "list":
                wanted = [TAKEN.get(first[1], 2)]
            elif first[0] == "top" and first[1] == name and first[2] == level + (kind == "mac") and first[1:4] not in written:
                wanted = [len(item[3][1]) for item in items
                          if (item[0], item[1], item[2], item[3][0]) == ("def", first[2], first[3], "fn")]
            if any(want != many for want in wanted):
                found.add(term[3])
    return sorted(found)


class TestMiscounts(unittest.TestCase):
    def check(self, text, *marks):
        """The calls that begin with these texts miscount; where a number stands behind one, this one of them."""
        wanted = []
        for mark in marks:
            wanted.append(("m", spot(text, *mark) if isinstance(mark, tuple) else spot(text, mark)))
        artifact = made_of(text).artifact()
        self.assertEqual(miscounts(artifact), sorted(wanted), text)
        self.assertEqual(miscounts_plainly(artifact), sorted(wanted), text)

    def test_procedures(self):
        self.check("((fn (x) x) 1) ((fn (x) x)) ((fn (x) x) 1 2) ((fn () 1)) ((fn () 1) 2)",
                   "((fn (x) x))", "((fn (x) x) 1 2)", "((fn () 1) 2)")
        self.check("(let ((x 1)) (let ((y 2)) x))")
        self.check("(list ((fn (x) x) 1 (fn () ((fn () 1) 2))))", "((fn (x)", "((fn () 1)")

    def test_primitives(self):
        self.check("(+ 1) (+ 1 2) (+ 1 2 3) (list) (list 1 2 3) (not) (fail) (first 1 2) (cons 1)",
                   "(+ 1)", "(+ 1 2 3)", "(not)", "(fail)", "(first 1 2)", "(cons 1)")
        self.check("(let ((list 1)) (list)) (def rest 1) (rest)")
        for name in primitives():
            for many in range(4):
                artifact = made_of(f"({name}{' 1' * many})").artifact()
                self.assertEqual(miscounts(artifact), [] if name == "list" or TAKEN.get(name, 2) == many else [("m", 0)])

    def test_variables(self):
        self.check("(def f (fn (x y) x)) (f 1 2) (f 1) (f) (fn () (f 1 2 3)) f", "(f 1) ", "(f)", "(f 1 2 3)")
        self.check("(f) (def f (fn (x) (f)))", "(f)", ("(f)", 1))
        # What is set may take any number of arguments, and so may what is no fn.
        self.check("(def f (fn (x) x)) (f) (fn () (set f 1))")
        self.check("(def f (let ((y 1)) (fn (x) x))) (def g f) (def h (rules () ((_) 1))) (f) (g) (h) (def k list) (k)")
        self.check("(let ((f (fn (x) x))) (f)) (letrec ((g (fn () 1))) (g 1))")
        self.check("(def f (fn (x) x)) (def g (fn (y) (let ((f list)) (f)))) (g) (set g g)")

    def test_other_modules(self):
        artifacts = artifacts_of({"a": "(def f (fn (x) x)) (offer f)", "m": "(use a) (f) (def g (fn () (f))) (g 1)"})
        self.assertEqual(miscounts(artifacts["m"]), [("m", spot("(use a) (f) (def g (fn () (f))) (g 1)", "(g 1)"))])

    def test_levels(self):
        text = "(def f (fn (x) x)) (up (def f (fn () 1)) (fn () (f)) (fn () (f 1)) (def g (fn (y) 2))) (f) (f 1) (defmac m (fn (s) (g)))"
        self.check(text, ("(f 1)", 0), ("(f)", 1), "(g)")
        self.check("(up (def f (fn () 1)) (up (def f (fn (x) 1)) (fn () (f))) (fn () (f 1))) (defmac m (fn (s) (f 2)))",
                   "(f)", "(f 1)", "(f 2)")

    def test_levels_that_do_not_fit(self):
        at, wrong = ("m", 5), call("+", number(1), at=("m", 6))
        other = call(("top", "m", 1, 0, AT), number(1), at=at)
        items = (("def", 1, 0, fn((), number(1))), ("def", 0, 0, fn((), other)), ("expr", 0, 0, wrong))
        self.assertEqual(miscounts(("module", "m", (), (), (), items)), [("m", 6)])
        self.assertEqual(miscounts(("module", "m", (), (), (), (items[0], ("mac", 0, 0, other)))), [at])
        self.assertEqual(miscounts(("module", "m", (), (), (), (items[0], ("mac", 1, 0, other)))), [])
        self.assertEqual(miscounts(("module", "k", (), (), (), (items[0], ("mac", 0, 0, other)))), [])

    def test_each_once_and_ascending(self):
        self.check("(defmac m (rules () ((_ f) (do (def f (fn () (+ 1))) (def y 2))))) (m a) (m b)", "(+ 1)")
        self.check("(do (first) (rest)) (if (not) (+) (-))", "(first)", "(rest)", "(not)", "(+)", "(-)")

    def test_what_else_is_called(self):
        self.check("(1 2) (\"a\") ((if 1 (fn () 1) 2) 3) ((do 1 (fn () 1)) 2) ((rules () ((_) 1))) (match #'1 () (x 1))")
        term = call(("prim", "first"), call(local(0)), call("rest", at=("m", 1)), at=("m", 2))
        self.assertEqual(miscounts(("module", "m", (), (), (), (("def", 0, 0, fn((0,), term)),))), [("m", 1), ("m", 2)])
        self.assertEqual(miscounts(("module", "m", (), (), (), (("expr", 0, 0, call(prim("list"))),))), [])

    def test_they_end_with_an_error(self):
        for text in ("(def f (fn (x) x)) (f)", "(+ 1 2 3)", "((fn (x) x))", "(first)"):
            (at,) = miscounts(made_of(text).artifact())
            self.assertEqual(outcome(values_of, text), ("RunError", "count", at))

    def test_modules(self):
        for artifact in artifacts_of({name: SAMPLES[name] for name in ORDER}).values():
            self.assertEqual(miscounts(artifact), miscounts_plainly(artifact))
            self.assertEqual(miscounts(artifact), [])
        rng = seeded(44)
        found = 0
        for _ in range(1500):
            try:
                made = compile_all(RandomModules(rng).modules())
            except WhereError:
                continue
            for compiled in made:
                told = miscounts(compiled.artifact())
                self.assertEqual(told, miscounts_plainly(compiled.artifact()))
                found += len(told)
        self.assertGreater(found, 0)


if __name__ == "__main__":
    unittest.main()
