"""Pruning (point 81)."""

import unittest

from helper import artifacts_of, outcome, seeded
from randommodules import RandomModules
from samples import ORDER, SAMPLES
from wherewritten.calling import compile_all
from wherewritten.errors import WhereError
from wherewritten.library import library
from wherewritten.linking import order, program, run
from wherewritten.pruning import needed, pruned, run_pruned
from wherewritten.walking import terms_in

IDLE = ("const", "prim", "fn", "syntax", "rules", "pattern", "template")


def needed_plainly(artifacts, main):
    """Adds needed items until there are no more."""
    items = []
    for module in order(artifacts, main):
        rows = [item for item in artifacts[module][5] if item[0] != "mac" and item[1] == 0]
        items.extend((module, at, item) for at, item in enumerate(rows))
    found = {(module, at) for module, at, item in items if item[0] != "def" or item[3][0] not in IDLE}
    while True:
        names = {term[1:4] for module, at, item in items if (module, at) in found for term in terms_in(item[3]) if term[0] == "top"}
        more = {(module, at) for module, at, item in items if item[0] == "def" and (module, *item[1:3]) in names}
        if more <= found:
            return [(module, at) for module, at, _ in items if (module, at) in found]
        found |= more


class TestPruning(unittest.TestCase):
    def check_runs(self, artifacts, main, fuels):
        for fuel in fuels:
            told = outcome(run, artifacts, main, fuel)
            if told[0] == "gives" or told[1] != "fuel":
                self.assertEqual(outcome(run_pruned, artifacts, main, fuel), told)
        self.assertEqual(needed(artifacts, main), needed_plainly(artifacts, main))

    def check(self, text, wanted, shown, others=None):
        artifacts = artifacts_of({**(others or {}), "m": text})
        self.assertEqual(needed(artifacts, "m"), wanted, text)
        self.assertEqual(pruned(artifacts, "m"), shown, text)
        self.check_runs(artifacts, "m", (0, 1, 2, 3, 4, 5, 8, 12, 20, 50, 1000))

    def test_idle_items(self):
        self.check("(def a 1) (def b list) (def c (fn () a)) (def d #'x) (def e (rules () ((_) 1))) (def f '(1))", [], "module m\n")
        self.check("(def p (fn (s) 1)) 5 (def q (if 1 2 3)) (def r 1) (def s q) (def t (p 1)) (def u (let () (def x 1) x)) (def v (set r 1))",
                   [("m", 0), ("m", 1), ("m", 2), ("m", 3), ("m", 4), ("m", 5), ("m", 6), ("m", 7)], program(artifacts_of({
                       "m": "(def p (fn (s) 1)) 5 (def q (if 1 2 3)) (def r 1) (def s q) (def t (p 1)) (def u (let () (def x 1) x)) (def v (set r 1))"}), "m"))
        self.check("", [], "module m\n")

    def test_what_stands_in_needed_ones(self):
        self.check("(def a 1) (def b (fn () a)) (def c (fn () (c))) (b)", [("m", 0), ("m", 1), ("m", 3)],
                   "module m\n(def m:0:0 1)\n(def m:0:1 (fn () m:0:0))\n(m:0:1)\n")
        self.check("(def even (fn (n) (if (= n 0) #t (odd (- n 1))))) (def odd (fn (n) (if (= n 0) #f (even (- n 1))))) (def x 1) (odd 3)",
                   [("m", 0), ("m", 1), ("m", 3)], program(artifacts_of({"m": "(def even (fn (n) (if (= n 0) #t (odd (- n 1))))) "
                   "(def odd (fn (n) (if (= n 0) #f (even (- n 1))))) (def x 1) (odd 3)"}), "m").replace("(def m:0:2 1)\n", ""))
        # The variable of a set stands in it.
        self.check("(def a 1) (def b 2) (fn () (set a 2))", [("m", 0), ("m", 2)], "module m\n(def m:0:0 1)\n(fn () (set m:0:0 2))\n")
        self.check("(def f (fn () y)) (def y 1) (f)", [("m", 0), ("m", 1), ("m", 2)],
                   "module m\n(def m:0:0 (fn () m:0:1))\n(def m:0:1 1)\n(m:0:0)\n")

    def test_indexes(self):
        self.check("(defmac m (fn (s) s)) (up (def z 1) 5) (def a 1) 7 (def b 2) (list b)", [("m", 1), ("m", 2), ("m", 3)],
                   "module m\n7\n(def m:0:1 2)\n(list m:0:1)\n")

    def test_modules(self):
        others = {"a": "(def x 1) (def y 2) (def f (fn () y)) (offer (all))", "b": "(def z 1) (offer z)", "c": "(use a b) (def g (fn () (f))) (offer g)"}
        self.check("(use b c) (g)", [("a", 1), ("a", 2), ("c", 0), ("m", 0)],
                   "module b\nmodule a\n(def a:0:1 2)\n(def a:0:2 (fn () a:0:1))\nmodule c\n(def c:0:0 (fn () (a:0:2)))\nmodule m\n(c:0:0)\n", others)

    def test_missing(self):
        artifacts = artifacts_of({"a": "1", "m": "(use a)"})
        del artifacts["a"]
        for action, more in ((needed, ()), (pruned, ()), (run_pruned, (5,))):
            self.assertEqual(outcome(action, artifacts, "m", *more), ("ModuleError", "missing", ("a",)))
        self.assertEqual(outcome(run_pruned, artifacts_of({"m": "(def x 1) (first x)"}), "m", 10), ("RunError", "kind", ("m", 4)))
        self.assertEqual(outcome(run_pruned, artifacts_of({"m": "(def x 1) 2"}), "m", 0), ("RunError", "fuel", None))
        self.assertEqual(run_pruned(artifacts_of({"m": "(def x 1) 2"}), "m", 1), [("m", "2")])

    def test_library(self):
        artifacts = artifacts_of({**{name: library()[name] for name in ("lists", "logic", "binding", "loops", "records")},
                                  "m": "(use loops lists) (times x 3 x) (sort < '(2 1))"})
        # map, count-down, range, length and what they need: less than all of it.
        self.assertLess(len(needed(artifacts, "m")), 14)
        self.check_runs(artifacts, "m", (10000,))

    def test_samples(self):
        artifacts = artifacts_of({name: SAMPLES[name] for name in ORDER})
        for name in ORDER:
            self.check_runs(artifacts, name, (0, 5, 20, 100, 100000))

    def test_random_modules(self):
        rng = seeded(49)
        fewer = 0
        for _ in range(1500):
            try:
                made = compile_all(RandomModules(rng).modules())
            except WhereError:
                continue
            artifacts = {compiled.artifact()[1]: compiled.artifact() for compiled in made}
            for name in artifacts:
                self.check_runs(artifacts, name, (3, 20, 1000))
                fewer += pruned(artifacts, name) != program(artifacts, name)
        self.assertGreater(fewer, 20)


if __name__ == "__main__":
    unittest.main()
