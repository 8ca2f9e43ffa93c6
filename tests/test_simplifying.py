"""Simplifying (point 82)."""

import unittest

from helper import AT, artifacts_of, call, flag, fn, local, made_of, number, outcome, plain_list, prim, seeded, stx, syn, text
from inorder import how_deep, locals_are_right
from randommodules import RandomModules
from samples import ORDER, SAMPLES
from test_evaluating import RandomTerms, quoted
from wherewritten.calling import compile_all
from wherewritten.errors import WhereError
from wherewritten.evaluating import evaluate
from wherewritten.linking import run
from wherewritten.simplifying import simplified, simplified_artifact
from wherewritten.walking import terms_in

FOLDED = {"+": 2, "-": 2, "*": 2, "<": 2, "=": 2, "not": 1, "number?": 1, "flag?": 1, "text?": 1, "list?": 1, "empty?": 1, "same?": 2}
PLAIN = ("const", "prim", "fn", "syntax", "rules", "pattern", "template")
RULES = ("rules", syn("(rules () ((_ a) a))"))


class MoreTerms(RandomTerms):
    """Random terms in which more can be made simpler."""

    def term(self, deep, known):
        rng = self.rng
        if deep > 0 and rng.random() < 0.3:
            name = rng.choice(list(FOLDED))
            return call(name, *[self.term(rng.choice([0, 0, deep - 1]), known) for _ in range(rng.choice([FOLDED[name], FOLDED[name], 1]))],
                        at=self.place())
        if deep > 0 and rng.random() < 0.25:
            new = self.variables(rng.randrange(4))
            args = [self.term(rng.choice([0, deep - 1]), known) for _ in range(len(new) + rng.choice([0, 0, 0, 1]))]
            return call(fn(new, self.term(deep - 1, [*known, *new])), *args, at=self.place())
        if deep > 0 and rng.random() < 0.15:
            return ("do", tuple(self.term(rng.choice([0, 0, deep - 1]), known) for _ in range(rng.randrange(1, 5))))
        return RandomTerms.term(self, deep, known)


def gives_plainly(term):
    """Whether a call of one of the primitives with consts gives a plain value."""
    told = outcome(evaluate, term, 100)
    return told[0] == "gives"


def simpler_ways(term):
    """The ways of point 82 in which something in a term can be made simpler."""
    terms = terms_in(term)
    named = {part[1][1] for part in terms if part[0] == "set" and part[1][0] == "local"}
    fixed = {variable for part in terms if part[0] == "fn" for variable in part[1]} - named
    standing = {part[1] for part in terms if part[0] == "local"}

    def is_fixed(part):
        return part[0] == "local" and part[1] in fixed

    for part in terms:
        if part[0] == "if" and part[1][0] in PLAIN:
            yield "if"
        if part[0] == "do":
            if len(part[1]) == 1 or any(one[0] == "do" for one in part[1]):
                yield "do"
            if any(one[0] in PLAIN or is_fixed(one) for one in part[1][:-1]):
                yield "do with what does nothing"
        if part[0] == "call" and part[1][0] == "fn" and len(part[1][1]) == len(part[2]):
            if not part[2]:
                yield "call without arguments"
            if any(variable in fixed and (arg[0] in ("const", "prim") or is_fixed(arg)) for variable, arg in zip(part[1][1], part[2])):
                yield "call with arguments"
        if part[0] == "call" and part[1][0] == "prim" and FOLDED.get(part[1][1]) == len(part[2]):
            if all(arg[0] == "const" for arg in part[2]) and gives_plainly(part):
                yield "primitive"
        if part[0] == "rec" and (not part[1] or any(one[0] in PLAIN and variable not in standing for variable, one in part[1])):
            yield "rec"


class TestSimplified(unittest.TestCase):
    def check(self, term, wanted):
        self.assertEqual(simplified(term), wanted, term)
        self.check_as_good(term)

    def check_as_good(self, term, fuels=None):
        made = simplified(term)
        self.assertEqual(list(simpler_ways(made)), [], (term, made))
        self.assertEqual(simplified(made), made)
        self.assertTrue(locals_are_right(made))
        self.assertLessEqual(how_deep(made), how_deep(term))
        for fuel in fuels or (0, 1, 2, 3, 5, 8, 13, 21, 50, 1000):
            told, mine = outcome(evaluate, term, fuel), outcome(evaluate, made, fuel)
            if told[0] == "gives":
                self.assertEqual(mine[:1] + mine[1][:1], told[:1] + told[1][:1], (term, made, fuel))
                self.assertLessEqual(mine[1][1], told[1][1], (term, made))
            elif told[1] != "fuel":
                self.assertEqual(mine, told, (term, made, fuel))
        return made

    def test_if(self):
        x = call("fail", number(1))
        for first in (number(0), flag(True), text(""), ("const", plain_list()), prim("+"), fn((0,), local(0)), stx("a"), RULES,
                      ("pattern", syn("(() a)")), ("template", syn("a"), ())):
            self.check(("if", first, number(1), x), number(1))
        self.check(("if", flag(False), x, number(2)), number(2))
        self.check(("if", call("<", number(1), number(2)), number(1), x), number(1))
        term = ("if", call("first", ("const", plain_list())), number(1), number(2))
        self.check(term, term)

    def test_do(self):
        f, x = call("list"), call(prim("list"), at=("m", 2))
        self.check(("do", (f,)), f)
        self.check(("do", (f, ("do", (x, f)), x)), ("do", (f, x, f, x)))
        self.check(("do", (f, number(1), prim("+"), fn((), x), stx("a"), RULES, ("pattern", syn("(() a)")), ("template", syn("a"), ()), number(2))),
                   ("do", (f, number(2))))
        self.check(("do", (number(1), number(2))), number(2))
        self.check(("do", (f, ("do", (x, number(3))))), ("do", (f, x, number(3))))
        # Three parts become three others.
        self.check(("do", (("do", (f, x)), number(1), f)), ("do", (f, x, f)))
        inner = fn((0,), ("do", (local(0), f, local(0))))
        self.check(inner, fn((0,), ("do", (f, local(0)))))
        # One that is set or bound by a rec stays.
        inner = fn((0,), ("do", (local(0), ("set", local(0), f), local(0))))
        self.check(inner, inner)
        inner = ("rec", ((0, f),), ("do", (local(0), f)))
        self.check(inner, inner)
        inner = ("do", (("top", "m", 0, 0, AT), f))
        self.check(inner, inner)

    def test_calls_of_fn(self):
        f = call("list")
        self.check(call(fn((), f)), f)
        self.check(call(fn((0,), call("list", local(0), local(0))), number(5)), call("list", number(5), number(5)))
        self.check(call(fn((0,), call(local(0), number(1), number(2))), prim("+")), number(3))
        self.check(call(fn((0, 1, 2), call("list", local(0), local(1), local(2))), number(1), f, text("a"), at=("m", 3)),
                   call(fn((1,), call("list", number(1), local(1), text("a"))), f, at=("m", 3)))
        # A fixed local variable takes the place of another one, which keeps its occurrence.
        self.check(fn((0,), call(fn((1,), call("list", local(1, ("m", 8)))), local(0, ("m", 9)))), fn((0,), call("list", local(0, ("m", 8)))))
        self.check(fn((0,), call(fn((1,), call(fn((2,), call("list", local(2))), local(1))), local(0))), fn((0,), call("list", local(0))))
        # Another number of arguments is an error, which stays.
        for term in (call(fn((0,), local(0))), call(fn((), f), number(1)), call(fn((0, 1), f), number(1)), call(fn((0,), f), number(1), number(2))):
            self.check(term, term)
        # One that is set stays, and so does an argument that is a fn, syntax or a variable that may change.
        for term in (call(fn((0,), ("do", (("set", local(0), f), local(0)))), number(5)), call(fn((0,), local(0)), fn((), f)),
                     call(fn((0,), local(0)), stx("a")), call(fn((0,), local(0)), RULES), ("rec", ((1, f),), call(fn((0,), local(0)), local(1))),
                     fn((1,), ("do", (("set", local(1), f), call(fn((0,), local(0)), local(1)))))):
            self.check(term, term)
        self.check(call(fn((0,), f), ("top", "m", 0, 0, AT)), call(fn((0,), f), ("top", "m", 0, 0, AT)))

    def test_primitives(self):
        limit = 10 ** 30
        for source, wanted in (
                (call("+", number(2), number(3)), number(5)), (call("-", number(2), number(3)), number(-1)), (call("*", number(2), number(3)), number(6)),
                (call("<", number(2), number(3)), flag(True)), (call("=", number(2), number(3)), flag(False)), (call("not", flag(False)), flag(True)),
                (call("not", number(0)), flag(False)), (call("number?", number(1)), flag(True)), (call("flag?", number(1)), flag(False)),
                (call("text?", text("a")), flag(True)), (call("list?", quoted("(1)")), flag(True)), (call("empty?", quoted("()")), flag(True)),
                (call("empty?", number(1)), flag(False)), (call("same?", quoted("(1 (2))"), quoted("(1 (2))")), flag(True)),
                (call("same?", number(1), flag(True)), flag(False)), (call("+", call("+", number(1), number(2)), number(3)), number(6))):
            self.check(source, wanted)
        for term in (call("+", number(1)), call("+", number(1), number(2), number(3)), call("+", number(1), flag(True)), call("not"),
                     call("+", number(limit - 1), number(1)), call("*", number(10 ** 20), number(-10 ** 20)), call("list", number(1)),
                     call("first", quoted("(1)")), call("procedure?", number(1)), call("syntax?", number(1)), call("cons", number(1), quoted("()")),
                     call("rest", quoted("(1 2)")), call("same?", number(1), prim("+")), call("not", prim("+")), call("fail", number(1)),
                     call("identifier?", number(1)), call("list?", stx("a")), call("number?", fn((), number(1)))):
            self.check(term, term)

    def test_rec(self):
        f = call("list")
        self.check(("rec", (), f), f)
        self.check(("rec", ((0, number(1)), (1, f), (2, fn((), number(1)))), local(1)), ("rec", ((1, f),), local(1)))
        self.check(("rec", ((0, number(1)),), f), f)
        for term in (("rec", ((0, f),), number(1)), ("rec", ((0, number(1)),), local(0)), ("rec", ((0, number(1)),), ("set", local(0), f)),
                     ("rec", ((0, fn((), call(local(0)))), (1, f)), local(1))):
            self.check(term, term)

    def test_one_after_the_other(self):
        f = call("list")
        # What is set no more is fixed from then on.
        self.check(call(fn((0,), ("do", (("if", flag(False), ("set", local(0), f), number(1)), f, local(0)))), number(5)), ("do", (f, number(5))))
        self.check(("rec", ((0, number(1)), (1, fn((), local(0)))), f), f)
        self.check(call(("if", number(1), fn((0,), local(0)), f), number(5)), number(5))
        self.check(call(("do", (number(1), prim("+"))), number(2), number(3)), number(5))
        # Nested lets of consts.
        term = local(0)
        for at in range(40):
            term = call(fn((at,), term if at == 0 else call("+", local(at), term)), number(at))
        self.check(term, number(sum(range(40))))

    def test_deep_terms(self):
        term = local(0)
        for _ in range(109):
            term = call("+", number(1), ("do", (term,)))
        self.check_as_good(fn((0,), term))
        term = number(0)
        for _ in range(200):
            term = call("+", number(1), term)
        self.check(term, number(200))
        term = number(0)
        for at in range(100):
            term = call(fn((at,), term), local(at + 1))
        self.check(fn((100,), term), fn((100,), number(0)))

    def test_random_terms(self):
        rng = seeded(47)
        changed = 0
        for kind in (RandomTerms, MoreTerms):
            for _ in range(4000):
                term = kind(rng).term(rng.randrange(2, 8), [])
                changed += self.check_as_good(term, (0, 1, rng.randrange(20), rng.randrange(60), 400)) != term
        self.assertGreater(changed, 3000)


class TestArtifacts(unittest.TestCase):
    def test_items(self):
        text_of = "(def x (+ 1 2)) (if 1 2 3) (up (def y (+ 1 2)) (if 1 2 3)) (defmac m (if 1 (fn (s) s) 2)) (def z (let ((a 1)) a))"
        artifact = made_of(text_of).artifact()
        made = simplified_artifact(artifact)
        self.assertEqual(made[:5], artifact[:5])
        self.assertEqual([item[:3] for item in made[5]], [item[:3] for item in artifact[5]])
        for before, after in zip(artifact[5], made[5]):
            is_plain = before[1] == 0 and before[0] != "mac"
            self.assertEqual(after[3], simplified(before[3]) if is_plain else before[3])
        self.assertEqual([item[3] for item in made[5] if item[1] == 0 and item[0] != "mac"], [number(3), number(2), number(1)])

    def check_runs(self, artifacts):
        made = {name: simplified_artifact(artifact) for name, artifact in artifacts.items()}
        for name in artifacts:
            for fuel in (0, 3, 10, 40, 100, 1000, 20000):
                told = outcome(run, artifacts, name, fuel)
                if told[0] == "gives" or told[1] != "fuel":
                    self.assertEqual(outcome(run, made, name, fuel), told)

    def test_samples(self):
        self.check_runs(artifacts_of({name: SAMPLES[name] for name in ORDER}))

    def test_random_modules(self):
        rng = seeded(48)
        for _ in range(1500):
            try:
                made = compile_all(RandomModules(rng).modules())
            except WhereError:
                continue
            self.check_runs({compiled.artifact()[1]: compiled.artifact() for compiled in made})


if __name__ == "__main__":
    unittest.main()
