"""Programs written out as one module (point 80)."""

import unittest

from helper import artifacts_of, outcome, seeded, stx
from randommodules import RandomModules
from samples import ORDER, SAMPLES
from wherewritten.calling import compile_all
from wherewritten.compiling import compile_module
from wherewritten.errors import WhereError
from wherewritten.library import library
from wherewritten.linking import order, program, run
from wherewritten.walking import terms_in
from wherewritten.written import written_out


def without_names(told):
    """What a run gives, without modules and occurrences."""
    return [value for _, value in told[1]] if told[0] == "gives" else told[:2]


class TestWrittenOut(unittest.TestCase):
    def check_same(self, artifacts, main, fuels=(0, 1, 5, 20, 100, 100000)):
        """What is written out does the same, and is written out as itself."""
        text = written_out(artifacts, main)
        made = compile_module("z", text, {}).artifact()
        self.assertEqual(made[2:5], ((), (), made[4]))
        self.assertEqual(written_out({"z": made}, "z"), text)
        for fuel in fuels:
            told = without_names(outcome(run, artifacts, main, fuel))
            self.assertEqual(without_names(outcome(run, {"z": made}, "z", fuel)), told)
        lines = [line for line in program(artifacts, main).split("\n") if line and not line.startswith("module ")]
        self.assertEqual(text.count("\n"), len(lines))
        self.assertEqual([item[0] for item in made[5]], ["def" if line.startswith("(def ") else "expr" for line in lines])
        return text

    def check(self, text, *lines):
        artifacts = artifacts_of({"m": text})
        self.assertEqual(self.check_same(artifacts, "m"), "".join(line + "\n" for line in lines))

    def test_lines(self):
        self.check("")
        self.check("(def x 1) (def f (fn (a b) (if a b x))) (f 1 x) \"a (b\" '(1 (#t))", "(def t0 1)", "(def t1 (fn (v0 v1) (if v0 v1 t0)))",
                   "(t1 1 t0)", "\"a (b\"", "(quote (1 (#t)))")
        self.check("(let ((x 1)) (def y 2) (set x y) (list x y)) (do 1 (do 2 3))",
                   "((fn (v0) (letrec ((v1 2)) (do (set v0 v1) (list v0 v1)))) 1)", "1", "2", "3")
        self.check("(def x y) (def y 1)", "(def t0 t1)", "(def t1 1)")
        self.check("(list (do 1 2)) (fn () (list) (fn () 1 2) 3)", "(list (do 1 2))", "(fn () (do (list) (fn () (do 1 2)) 3))")
        self.check("(letrec () 1 2) (letrec ((a 1)) a)", "(letrec () (do 1 2))", "(letrec ((v0 1)) v0)")

    def test_modules(self):
        artifacts = artifacts_of({
            "a": "(def x 1) (def get (fn () x)) (offer (all)) (up (def hidden #'x))", "b": "(use a) (def x2 (get)) (offer x2 x) 7",
            "c": "(up (use a)) (use b) (def y x) (def g (fn () (set y x2) y)) (g) (list y x)"})
        text = self.check_same(artifacts, "c", range(40))
        self.assertEqual(text, "(def t0 1)\n(def t1 (fn () t0))\n(def t2 (t1))\n7\n(def t3 t0)\n(def t4 (fn () (do (set t3 t2) t3)))\n(t4)\n"
                               "(list t3 t0)\n")
        self.assertEqual(outcome(written_out, {"c": artifacts["c"]}, "c"), ("ModuleError", "missing", ("b",)))
        self.assertEqual(outcome(written_out, {}, "c"), ("ModuleError", "missing", ("c",)))

    def test_errors_of_runs(self):
        for text in ("(first '())", "(def x y) (def y 1)", "(let ((x 1)) (x))", "((fn (x) x))", "(fail 1)", "(* 1000000000000000 1000000000000000)"):
            self.check_same(artifacts_of({"m": text}), "m", range(12))

    def refused(self, code, text, others=None):
        artifacts = artifacts_of({**(others or {}), "m": text})
        self.assertEqual(outcome(written_out, artifacts, "m"), ("StoreError", code), text[:200])

    def test_syntax(self):
        for text in ("#'x", "(fn () #'(a))", "(def m (rules () ((_) 1)))", "(fn (s) (match s () (a 1)))", "(fn () (fill 1))",
                     "(list 1 (if 1 2 #'x))"):
            self.refused("syntax", text)
            self.refused("syntax", "(use a) 1", {"a": text})
        # What is not part of the program does not count.
        self.check("(defmac m (fn (s) (fill (list 1)))) (up (def x #'y)) (m)", "(list 1)")

    def test_deep_lists(self):
        def quoted(many):
            return "'" + "(" * many + ")" * many
        self.check_same(artifacts_of({"m": "(def x " + quoted(50) + ")"}), "m")
        self.check_same(artifacts_of({"m": "(list " * 9 + quoted(50) + ")" * 9}), "m")
        # A let is written as two lists.
        self.check_same(artifacts_of({"m": "(list " * 7 + "(let () " + quoted(50) + ")" + ")" * 7}), "m")
        self.refused("deep", "(list " * 8 + "(let () " + quoted(50) + ")" + ")" * 8)
        self.refused("deep", "(def x " + "(list " * 7 + "(let () " + quoted(50) + ")" + ")" * 8)
        # Brackets in strings are none.
        self.check("(list \"" + "(" * 80 + "\")", "(list \"" + "(" * 80 + "\")")

    def test_deep_expressions(self):
        # A let stands in one list less than the call of a fn that is written out.
        self.check_same(artifacts_of({"m": "(let () " * 20 + "1" + ")" * 20}), "m")
        self.refused("deep", "(let () " * 21 + "1" + ")" * 21)
        self.check_same(artifacts_of({"m": "(do (list " * 20 + "1" + "))" * 20}), "m")
        text = "(list " * 40 + "1" + ")" * 40
        self.check_same(artifacts_of({"m": text}), "m")
        # The parts of a do in a body are forms of the body, those of others are parts of a list.
        self.check_same(artifacts_of({"m": "(fn () " * 40 + "1 2" + ")" * 40}), "m")
        self.check_same(artifacts_of({"m": "(fn () " * 39 + "(letrec ((a 1)) 1 2)" + ")" * 39}), "m")
        self.check_same(artifacts_of({"m": "(list " * 39 + "(do 1 2)" + ")" * 39}), "m")
        self.check_same(artifacts_of({"m": "(def x " + "(list " * 40 + "1" + ")" * 41}), "m")
        self.refused("deep", "(list " * 20 + "(let () " * 10 + "(list 1)" + ")" * 30)
        self.refused("deep", "(let ((x 1)) (set x " * 13 + "(if 1 2 3)" + "))" * 13 + " (let () (list " * 14 + "))" * 14)

    def test_long_texts(self):
        base = "(def a 1) (list" + " a" * 1900 + ")"
        artifacts = artifacts_of({"m": base})
        least = len(written_out(artifacts, "m"))
        self.assertGreater(least, 5700)
        for length, told in ((5999, "gives"), (6000, "gives"), (6001, "StoreError")):
            numbers, left = [], length - least
            while left > 0:
                digits = min(left - 1, 29) if left - 1 - min(left - 1, 29) != 1 else 20
                numbers.append("1" * digits)
                left -= digits + 1
            result = outcome(written_out, artifacts_of({"m": base + " " + " ".join(numbers)}), "m")
            self.assertEqual(result[0], told)
            self.assertEqual(result[1], "long" if told == "StoreError" else result[1])
            if told == "gives":
                self.assertEqual(len(result[1]), length)

    def test_order_of_refusals(self):
        deep = "(let () " * 25 + "1" + ")" * 25
        long = "(def x (list" + " x" * 2500 + "))"
        self.refused("syntax", f"{deep} #'x")
        self.refused("syntax", f"{long} #'x")
        self.refused("deep", f"{long} (let () {'(list ' * 39}1{')' * 39})")
        self.refused("long", long)
        # Syntax in a later module comes ahead of what is deep in an earlier one.
        self.refused("syntax", "(use a) #'x", {"a": deep})

    def test_samples(self):
        artifacts = artifacts_of({name: SAMPLES[name] for name in ORDER})
        told = {}
        for name in ORDER:
            kinds = {term[0] for module in order(artifacts, name) for item in artifacts[module][5]
                     if item[0] != "mac" and item[1] == 0 for term in terms_in(item[3])}
            result = outcome(written_out, artifacts, name)
            if kinds & {"syntax", "rules", "pattern", "template"}:
                self.assertEqual(result, ("StoreError", "syntax"))
            else:
                self.check_same(artifacts, name)
            told[result[0]] = True
        self.assertIn("gives", told)

    def test_library(self):
        artifacts = artifacts_of({**{name: library()[name] for name in ("lists", "logic", "binding", "loops", "records")},
                                  "m": "(use loops logic lists) (list-of (cond ((< x 2) x) (else (* x x))) (from x (range 0 4)) (if (not (= x 1))))"})
        self.check_same(artifacts, "m")

    def test_random_modules(self):
        rng = seeded(46)
        count = 0
        for _ in range(1500):
            texts = RandomModules(rng).modules()
            try:
                made = compile_all(texts)
            except WhereError:
                continue
            artifacts = {compiled.artifact()[1]: compiled.artifact() for compiled in made}
            for name in artifacts:
                if outcome(written_out, artifacts, name)[0] == "gives":
                    self.check_same(artifacts, name)
                    count += 1
        self.assertGreater(count, 80)

    def test_syntax_in_hand_made_artifacts(self):
        item = ("expr", 0, 0, stx("x"))
        self.assertEqual(outcome(written_out, {"m": ("module", "m", (), (), (), (item,))}, "m"), ("StoreError", "syntax"))
        self.assertEqual(written_out({"m": ("module", "m", (), (), (), (("mac", 0, 0, stx("x")), ("expr", 1, 0, stx("x"))))}, "m"), "")


if __name__ == "__main__":
    unittest.main()
