"""Running code (points 46 and 63 to 67)."""

import unittest

from codemachine import CodeMachine, is_sound_plainly
from helper import AT, artifacts_of, call, flag, fn, local, number, outcome, prim, seeded, stx, syn, text
from samples import ORDER, SAMPLES
from test_evaluating import RandomTerms
from wherewritten.coding import code_of, is_sound
from wherewritten.errors import RunError, WhereError
from wherewritten.evaluating import evaluate
from wherewritten.linking import run
from wherewritten.running import deepest_run, run_code, run_linked

ONE, TWO = ("const", ("number", 1)), ("const", ("number", 2))
END = ("return",)


def block(*instructions, slots=0, many=1):
    return ((0, slots, 0, (("begin", many), *instructions)),)


def plainly(code, fuel):
    """What a plain machine tells: what running gives, and how many blocks there were."""
    machine = CodeMachine(code, fuel)
    told = outcome(machine.run)
    return told, machine.deepest


class TestRunCode(unittest.TestCase):
    def check(self, term, most=60):
        """With each fuel, the same as evaluating."""
        code = code_of(term)
        told = outcome(evaluate, term, 100000)
        needed = told[1][1] if told[0] == "gives" else most
        for fuel in {0, 1, 2, 3, 5, 8, 13, max(needed - 1, 0), needed, needed + 1, 100000}:
            self.assertEqual(outcome(run_code, code, fuel), outcome(evaluate, term, fuel), (term, fuel))
        return outcome(run_code, code, 100000)

    def test_values(self):
        x = local(0)
        for term, shown, many in (
                (number(7), "7", 1), (text("a"), "\"a\"", 1), (prim("list"), "procedure", 1), (fn((0,), x), "procedure", 1),
                (stx("(a b)"), "syntax", 1), (("rules", syn("(rules () ((_ a) a))")), "procedure", 1),
                (("pattern", syn("(() a)")), "procedure", 1), (("template", syn("(a)"), (("a", (), 0, 0),)), "procedure", 1),
                (call("+", number(2), number(3)), "5", 4), (call(fn((0,), x), number(4)), "4", 4),
                (("if", flag(False), number(1), number(2)), "2", 3), (("if", number(0), number(1), number(2)), "1", 3),
                (("do", (number(1), number(2), number(3))), "3", 4), (("rec", ((0, number(5)),), x), "5", 3),
                (("rec", ((0, number(5)),), ("do", (("set", x, number(6)), x))), "6", 6),
                (call(("template", syn("(a a)"), (("a", (), 0, 0),)), stx("z")), "syntax", 3)):
            self.assertEqual(self.check(term), ("gives", (shown, many)))

    def test_errors(self):
        x = local(0, ("m", 9))
        for term, code, occurrence in (
                (call(number(1), at=("m", 3)), "apply", ("m", 3)), (call(fn((0,), x), at=("m", 3)), "count", ("m", 3)),
                (call("first", number(1), at=("m", 3)), "kind", ("m", 3)), (call("first", at=("m", 3)), "count", ("m", 3)),
                (call("fail", number(1), at=("m", 3)), "fail", ("m", 3)), (("rec", ((0, x),), x), "early", ("m", 9)),
                (("rec", ((0, ("set", x, number(1))),), x), "early", ("m", 9)),
                (call("free=?", stx("a"), stx("b"), at=("m", 3)), "expanding", ("m", 3)),
                (("top", "m", 0, 0, ("m", 4)), "early", ("m", 4)),
                (("set", ("top", "m", 0, 0, ("m", 4)), number(1)), "early", ("m", 4))):
            self.assertEqual(outcome(run_code, code_of(term), 100), ("RunError", code, occurrence))
            self.assertEqual(outcome(run_code, code_of(call("list", number(1), term)), 100), ("RunError", code, occurrence))
        self.assertEqual(outcome(run_code, code_of(number(1)), 0), ("RunError", "fuel", None))

    def test_random_terms(self):
        rng = seeded(41)
        told = {}
        for _ in range(3000):
            mine = self.check(RandomTerms(rng).term(rng.randrange(2, 7), []), 400)
            told[mine[1] if mine[0] != "gives" else "gives"] = True
        self.assertLessEqual({"gives", "early", "kind", "count", "apply", "size", "expanding"}, set(told))

    def test_code_that_no_term_makes(self):
        for code, shown, many in (
                (block(("begin", 3), ONE, END), "1", 4),
                (block(ONE, ("fill", 0), ("slot", 0, AT), ("new", 0), TWO, ("fill", 0), ("slot", 0, AT), ("drop",), END, slots=1), "1", 1),
                (block(("jump", 3), END, ONE, END), "1", 1),
                (block(ONE, ("unless", 5), TWO, ("jump", 6), ONE, END), "2", 1),
                (block(("const", ("flag", False)), ("unless", 5), TWO, ("jump", 6), ONE, END), "1", 1),
                (block(("prim", "list"), ONE, TWO, ("tail", 2, AT)), "(1 2)", 1),
                (block(("prim", "list"), ("call", 0, AT), END), "()", 1)):
            self.assertTrue(is_sound(code), code)
            self.assertEqual(run_code(code, 100), (shown, many))
            self.assertEqual((("gives", run_code(code, 100)), deepest_run(code, 100)), plainly(code, 100))
        # A box that a procedure holds stays what it is when its slot gets a new one.
        outer = (("begin", 1), ONE, ("fill", 0), ("close", 1, (("slot", 0),)), ("new", 0), TWO, ("fill", 0), ("tail", 0, AT))
        inner = (("begin", 1), ("outer", 0, AT), ("close", 2, (("outer", 0),)), ("drop",), TWO, ("set", "outer", 0, AT), ("drop",), END)
        code = ((0, 1, 0, outer), (0, 0, 1, inner), (0, 0, 1, (("begin", 1), ("outer", 0, AT), END)))
        self.assertTrue(is_sound(code))
        self.assertEqual(run_code(code, 10), ("1", 2))
        for code, told in (
                (block(("slot", 0, ("m", 5)), END, slots=1), ("early", ("m", 5))),
                (block(ONE, ("set", "slot", 0, ("m", 5)), END, slots=1), ("early", ("m", 5))),
                (block(ONE, ("fill", 0), ("new", 0), ("slot", 0, ("m", 5)), END, slots=1), ("early", ("m", 5))),
                (block(ONE, ("settop", "m", 0, 0, ("m", 5)), END), ("early", ("m", 5)))):
            self.assertTrue(is_sound_plainly(code))
            self.assertEqual(outcome(run_code, code, 10), ("RunError", *told))

    def test_arguments_stay_as_they_are(self):
        code = code_of(call(fn((0,), ("set", local(0), number(2))), ("const", ("list", (("number", 1),)))))
        again = code_of(call(fn((0,), ("set", local(0), number(2))), ("const", ("list", (("number", 1),)))))
        self.assertEqual(run_code(code, 100), run_code(code, 100))
        self.assertEqual(code, again)


class TestDeepestRun(unittest.TestCase):
    def loop(self, many, wrap):
        """A term with a loop that goes round some times; the call that goes on is wrapped."""
        again = call(local(0), call("-", local(1), number(1)))
        step = fn((1,), ("if", call("=", local(1), number(0)), number(0), wrap(again)))
        return ("rec", ((0, step),), call(local(0), number(many)))

    def test_loops(self):
        for many in (0, 1, 2, 10, 500, 3000):
            self.assertEqual(deepest_run(code_of(self.loop(many, lambda term: term)), 10 ** 6), 1)
            self.assertEqual(deepest_run(code_of(self.loop(many, lambda term: ("do", (number(1), term)))), 10 ** 6), 1)
            self.assertEqual(deepest_run(code_of(self.loop(many, lambda term: call(fn((5,), local(5)), term))), 10 ** 6), many + 1)
            self.assertEqual(deepest_run(code_of(self.loop(many, lambda term: call("+", number(1), term))), 10 ** 6), many + 1)

    def test_errors(self):
        code = code_of(self.loop(500, lambda term: call("+", number(1), term)))
        self.assertEqual(deepest_run(code, 0), 1)
        told = [deepest_run(code, fuel) for fuel in range(300)]
        self.assertEqual(told, sorted(told))
        self.assertGreater(told[-1], 10)
        self.assertEqual(deepest_run(code_of(call(fn((), call("list", call(fn((), call("fail", number(1)))))))), 100), 2)
        self.assertEqual(deepest_run(code_of(call("list", call(fn((0,), number(1))))), 100), 1)
        self.assertEqual(deepest_run(code_of(number(1)), 10), 1)

    def test_random_terms(self):
        rng = seeded(42)
        for _ in range(1500):
            code = code_of(RandomTerms(rng).term(rng.randrange(2, 7), []))
            for fuel in (0, rng.randrange(30), 400):
                self.assertEqual(deepest_run(code, fuel), plainly(code, fuel)[1])


class TestRunLinked(unittest.TestCase):
    def check(self, artifacts, main, fuels):
        for fuel in fuels:
            self.assertEqual(outcome(run_linked, artifacts, main, fuel), outcome(run, artifacts, main, fuel), (main, fuel))
        return outcome(run_linked, artifacts, main, 100000)

    def test_samples(self):
        artifacts = artifacts_of({name: SAMPLES[name] for name in ORDER})
        for name in ORDER:
            told = self.check(artifacts, name, [*range(0, 300, 7), 100000])
            self.assertEqual(told[0], "gives")

    def test_variables_of_modules(self):
        artifacts = artifacts_of({
            "a": "(def x 1) (def set-x (fn (v) (set x v))) (def get (fn () x)) (offer (all))",
            "b": "(use a) (set-x 5) (def y x) (list (get) y) (def z (fn () (set y 7))) (z) y"})
        self.assertEqual(self.check(artifacts, "b", range(60)), ("gives", [("b", "5"), ("b", "(5 5)"), ("b", "7"), ("b", "7")]))

    def test_errors(self):
        artifacts = artifacts_of({"a": "(list 1) (list x) (def x 1)", "b": "(use a) 1", "c": "(set x 1) (def x 1)"})
        self.assertEqual(self.check(artifacts, "b", range(20)), ("RunError", "early", ("a", 5)))
        self.assertEqual(self.check(artifacts, "c", range(20)), ("RunError", "early", ("c", 2)))
        del artifacts["a"]
        self.assertEqual(self.check(artifacts, "b", (0,)), ("ModuleError", "missing", ("a",)))
        self.assertEqual(self.check(artifacts, "k", (0,)), ("ModuleError", "missing", ("k",)))

    def test_each_fuel(self):
        artifacts = artifacts_of({"m": "(def f (fn (n) (if (= n 0) 0 (+ 1 (f (- n 1)))))) (f 3) (f 2) (list f)"})
        most = 0
        while outcome(run, artifacts, "m", most)[0] != "gives":
            most += 1
        self.check(artifacts, "m", range(most + 2))
        with self.assertRaises(RunError):
            run_linked(artifacts, "m", most - 1)
        self.assertEqual(run_linked(artifacts, "m", most)[:2], [("m", "3"), ("m", "2")])

    def test_long_loops(self):
        artifacts = artifacts_of({"m": "(def f (fn (n) (if (= n 0) 0 (f (- n 1))))) (f 20000)"})
        self.assertEqual(run_linked(artifacts, "m", 10 ** 6), [("m", "0")])
        with self.assertRaises(WhereError):
            run_linked(artifacts, "m", 1000)


if __name__ == "__main__":
    unittest.main()
