"""The scopes, the table and the tales of compiled modules, and looks at them (points 58 to 61, 83 and 84)."""

import unittest

from helper import artifacts_of, made_of, spot
from samples import ORDER, SAMPLES
from wherewritten.calling import compile_all
from wherewritten.compiling import compile_module
from wherewritten.looks import copies, growths, loose, reach
from wherewritten.reading import read
from wherewritten.resolving import resolve
from wherewritten.showing import count_data
from wherewritten.terms import primitives

CORE = ("core", 0, 0)


class ScopeCase(unittest.TestCase):
    def at(self, text, mark, index=0):
        return ("m", spot(text, mark, index))


class TestScopes(ScopeCase):
    def check(self, text, *expected):
        """The scopes are of these kinds, each at the datum that begins with a text (at what a number tells of its times)."""
        wanted = [("module", None)]
        for kind, mark in expected:
            wanted.append((kind, self.at(text, *mark) if isinstance(mark, tuple) else self.at(text, mark)))
        self.assertEqual(made_of(text).scopes(), wanted, text)

    def test_words(self):
        self.check("(fn (x) x)", ("fn", "(fn"), ("body", "(fn"))
        self.check("(let ((x (fn () 1))) x)", ("fn", "(fn"), ("body", "(fn"), ("fn", "(let"), ("body", "(let"))
        self.check("(letrec ((x (fn () 1))) x)", ("letrec", "(letrec"), ("fn", "(fn"), ("body", "(fn"), ("body", "(letrec"))
        self.check("(letmac ((m (fn (s) s))) 1)", ("fn", "(fn"), ("body", "(fn"), ("letmac", "(letmac"), ("body", "(letmac"))
        self.check("(recmac ((m (fn (s) s))) 1)", ("recmac", "(recmac"), ("fn", "(fn"), ("body", "(fn"), ("body", "(recmac"))
        self.check("(match 1 () ((a) 1) (b 2))", ("match", "((a"), ("body", "((a"), ("match", "(b"), ("body", "(b"))
        self.check("(let () (def x (fn () 1)) x)", ("fn", "(let"), ("body", "(let"), ("fn", "(fn"), ("body", "(fn"))
        self.check("(def x 1) (up 1) (list x) '(1)")

    def test_uses(self):
        text = "(defmac m (rules () ((_ a) (m2 a)))) (letmac ((m2 (fn (s) #'1))) (m2))"
        self.check(text, ("fn", "(fn"), ("body", "(fn"), ("letmac", "(letmac"), ("body", "(letmac"), ("introduction", "(m2))"))
        text = "(defmac m (rules () ((_ a) a))) (m 1) (let () (m 2)) (if (m 3) 1 2)"
        self.check(text, ("use-site", "(m 1"), ("introduction", "(m 1"), ("fn", "(let"), ("body", "(let"), ("introduction", "(m 2"),
                   ("use-site", "(m 3"), ("introduction", "(m 3"))
        text = "(let () (defmac m (rules () ((_ a) a))) (m 1) (let () (m 2)) (if (m 3) 1 2))"
        self.check(text, ("fn", "(let"), ("body", "(let"), ("use-site", "(m 1"), ("introduction", "(m 1"), ("fn", "(let () (m 2"),
                   ("body", "(let () (m 2"), ("introduction", "(m 2"), ("use-site", "(m 3"), ("introduction", "(m 3"))

    def test_use_sites_of_macros_at_other_levels(self):
        text = "(up (defmac m (rules () ((_ a) a))) (m 1)) (defmac k (m 2))"
        self.check(text, ("use-site", "(m 1"), ("introduction", "(m 1"), ("use-site", "(m 2"), ("introduction", "(m 2"))

    def test_fresh(self):
        text = "(defmac m (fn (s) (do (fresh #'a) (fresh #'b) #'1))) (list (m) (m))"
        one, two = ("(m) (m"), ("(m)", 1)
        self.check(text, ("fn", "(fn"), ("body", "(fn"), ("use-site", one), ("introduction", one), ("fresh", one), ("fresh", one),
                   ("use-site", two), ("introduction", two), ("fresh", two), ("fresh", two))

    def test_imported_macros_have_no_use_sites(self):
        artifacts = artifacts_of({"a": "(defmac m (rules () ((_ a) a))) (offer m)"})
        self.assertEqual(made_of("(use a) (m 1)", "m", artifacts).scopes(), [("module", None), ("introduction", ("m", 3))])


class TestTables(ScopeCase):
    def test_table(self):
        text = "(def x 1) (let ((y 2)) y) (up (def x 3))"
        m0, m1 = ("m", 0, 0), ("m", 1, 0)
        self.assertEqual(made_of(text).table(), [
            (0, "x", (CORE, m0), ("top", "m", 0, 0), self.at(text, "x 1")),
            (1, "x", (CORE, m0), ("top", "m", 1, 0), self.at(text, "x 3")),
            (0, "y", (CORE, m0, m1), ("local", "m", 0), self.at(text, "y 2"))])

    def test_tables_with_modules(self):
        artifacts = artifacts_of({"a": "(def x 1) (def hidden 2) (offer x)"})
        text = "(use a) (up (use a)) (def y 1)"
        a0, a1, m0 = ("a", 0, 0), ("a", 0, 1), ("m", 0, 0)
        x, hidden = ("top", "a", 0, 0), ("top", "a", 0, 1)
        self.assertEqual(made_of(text, "m", artifacts).table(), [
            (0, "x", (a0, CORE), x, ("a", 2)), (0, "hidden", (a0, CORE), hidden, ("a", 6)), (0, "x", (CORE, m0), x, ("a", 2)),
            (1, "x", (a1, CORE), x, ("a", 2)), (1, "hidden", (a1, CORE), hidden, ("a", 6)), (1, "x", (CORE, m0), x, ("a", 2)),
            (0, "y", (CORE, m0), ("top", "m", 0, 0), ("m", spot(text, "y 1")))])

    def test_tales(self):
        text = "(def x 1) (defmac m (fn (s) (match s () ((_ a) (wrap (free=? a #'x) s))))) (list (m x) x)"
        made = made_of(text)
        x = ("top", "m", 0, 0)
        m0 = ("m", 0, 0)
        # Those of the module, fn, its body, the clause of match and its body.
        scopes = (CORE, *[("m", number, 0) for number in range(5)])
        self.assertEqual(made.tale(self.at(text, "x) s)")), [(0, scopes, "bound", x)])
        # x as it was handed to the macro, with the scopes of the use.
        handed = ("m", spot(text, "(m x)") + 2)
        sets = [row[1] for row in made.tale(handed)]
        self.assertEqual([(phase, kind, target) for phase, _, kind, target in made.tale(handed)], [(0, "bound", x)])
        self.assertEqual(len(sets[0]), 4)
        self.assertEqual(made.tale(self.at(text, "list (m")), [(0, (CORE, m0), "bound", ("prim", "list"))])
        self.assertEqual(made.tale(("m", 0)), [])
        self.assertEqual(made.tale(("k", 2)), [])

    def test_tales_of_several_outcomes(self):
        text = "(x 1) (def x 1)"
        m0 = ("m", 0, 0)
        self.assertEqual(made_of(text).tale(("m", 1)), [
            (0, (CORE, m0), "unbound", None), (0, (CORE, m0), "bound", ("top", "m", 0, 0))])
        text = "(up (def x 1)) (x 1) (def x 1)"
        self.assertEqual([row[2] for row in made_of(text).tale(self.at(text, "x 1) (def"))], ["phase", "bound"])
        # One identifier at two phases: it stands in what a macro puts in at both.
        text = "(def x 1) (up (def x 2)) (defmac both (rules () ((_ e) (do (def a e) (up (def b e)))))) (both x)"
        tale = made_of(text).tale(("m", spot(text, "(both x)") + 2))
        self.assertEqual([(row[0], row[3]) for row in tale], [(1, ("top", "m", 1, 0)), (0, ("top", "m", 0, 0))])

    def test_in_the_end_it_is_bound_so(self):
        core = [(phase, name, (CORE,), ("prim", name)) for phase in range(4) for name in primitives()]
        words = "fn if set let letrec do quote syntax rules letmac recmac def defmac up use offer only except rename as all match fill"
        core += [(phase, word, (CORE,), ("word", word)) for phase in range(4) for word in words.split()]
        for made in compile_all(SAMPLES):
            table = core + [row[:4] for row in made.table()]
            count = 0
            for name in SAMPLES:
                for place in range(400):
                    for phase, scopes, kind, target in made.tale((name, place)):
                        if kind == "bound":
                            # The name does not stand in the tale; the binding tells it.
                            names = {row[1] for row in table if row[3] == target}
                            told = [resolve(table, phase, ("id", known, (name, place), scopes)) for known in names]
                            self.assertIn(target, [table[one[1]][3] for one in told if one[0] == "bound"])
                            count += 1
                        else:
                            self.assertIsNone(target)
            self.assertGreater(count, 10)


class TestLooks(ScopeCase):
    def test_growths(self):
        text = "(defmac m (rules () ((_ a ...) (list a ... 1 a ...)) )) (m) (m 2 3) (letmac ((n (fn (s) #'5))) (n 1 2))"
        self.assertEqual(growths(made_of(text)), [1, 3, -3])
        for made in compile_all(SAMPLES):
            told = []
            for _, _, _, before, after in made.steps():
                told.append(count_data(read(after)[0]) - count_data(read(before)[0]))
            self.assertEqual(growths(made), told)
        self.assertEqual(growths(made_of("1")), [])

    def test_copies(self):
        text = "(defmac twice (rules () ((_ a b) (list a a)))) (def x 1) (def y 2) (twice x y) (fn (z) (set z x) (set x z))"
        use = spot(text, "(twice x")
        self.assertEqual(copies(made_of(text)), [
            (("m", use + 2), 2), (self.at(text, "z x)"), 1), (self.at(text, "x) (set"), 1), (self.at(text, "x z)"), 1),
            (self.at(text, "z))"), 1)])
        text = "(defmac m (fn (s) (list s s))) (letmac ((n (fn (t) t))) 1) (let () (defmac k (fn (u) u)) 2)"
        self.assertEqual(copies(made_of(text)), [(self.at(text, "s s)"), 1), (self.at(text, "s)))"), 1)])

    def test_copies_in_all_terms(self):
        text = "(def x 1) (def y (letrec ((f x) (g f)) (if f (do 1 g) (set f x))))"
        self.assertEqual(copies(made_of(text)), [(self.at(text, mark), 1) for mark in ("x) (g", "f)) (if", "f (do", "g) (set", "f x))))", "x))))")])

    def test_copies_of_a_match(self):
        text = "(match 1 () ((a b) a) (c c))"
        o = ("m", 0)
        # For each clause: t, r in the if, and r for each variable.
        self.assertEqual(copies(made_of(text)), [(o, 2 + 2 + 3), (self.at(text, "a) (c"), 1), (self.at(text, "c))"), 1)])
        text = "(fn (s) (match s () (a (fill (a b a)))))"
        told = dict(copies(made_of(text)))
        self.assertEqual(told[self.at(text, "a b")], 1)
        self.assertNotIn(self.at(text, "a)))"), told)

    def test_loose(self):
        text = "(def x 1) (def y 2) (fn (a b) (let ((c a) (d 1)) (def e c) y)) (letrec ((f 1) (g f)) 1) (offer x)"
        marks = ("b)", "d 1", "e c", "g f")
        self.assertEqual(loose([made_of(text)]), [self.at(text, mark) for mark in marks])
        text = "(defmac m 1) (letmac ((n 1) (k 1)) 1) (recmac ((j 1)) 1) (match 1 () ((p q) p)) (let () (defmac i 1) 1)"
        self.assertEqual(loose([made_of(text)]), [self.at(text, mark) for mark in ("m 1", "n 1", "k 1", "j 1", "q)", "i 1")])
        text = "(def x 1) (offer (as x y)) (def z 1) (offer (all))"
        self.assertEqual(loose([made_of(text)]), [])
        self.assertEqual(loose([made_of("(def x 1) (set x 2) (def y (fn () (y)))")]), [])

    def test_loose_over_modules(self):
        texts = {"a": "(def x 1) (def y 2) (defmac def-it (rules () ((_ n) (do (def hidden 1) (def n 2))))) (offer y def-it)",
                 "b": "(use (rename a (y z) (def-it d))) (d one) (d two) one"}
        made = compile_all(texts)
        hidden = ("a", spot(texts["a"], "hidden"))
        self.assertEqual(loose(made), [("a", 2), hidden, ("b", spot(texts["b"], "two"))])
        # The b of a rename is no x of these.
        self.assertEqual(loose(made[:1]), [("a", 2)])

    def test_reach(self):
        texts = {"a": "1", "b": "(use a) (up (use a))", "c": "(up (use b) (up (use a))) (use b)", "d": "(up (up (use c)))"}
        artifacts = artifacts_of(texts)
        self.assertEqual(reach(artifacts, "a"), [("a", 0)])
        self.assertEqual(reach(artifacts, "c"), [("a", 0), ("a", 1), ("a", 2), ("b", 0), ("b", 1), ("c", 0)])
        self.assertEqual(reach(artifacts, "d"), [("a", 2), ("a", 3), ("b", 2), ("b", 3), ("c", 2), ("d", 0)])
        self.assertEqual(reach({"d": artifacts["d"]}, "d"), [("c", 2), ("d", 0)])
        self.assertEqual(reach({}, "d"), [("d", 0)])
        known = artifacts_of({name: SAMPLES[name] for name in ORDER})
        for name in ORDER:
            ready = compile_module(name, SAMPLES[name], known).ready()
            self.assertEqual(reach(known, name), sorted([(name, 0), *ready]))


if __name__ == "__main__":
    unittest.main()
