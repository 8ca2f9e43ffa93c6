"""Modules: groups at levels, use, offer, artifacts, and making ready (points 38 to 47 and 53)."""

import unittest

from checks import ModuleCase
from inorder import is_in_order
from helper import artifacts_of, made_of, outcome, seeded, spot
from samples import ORDER, SAMPLES
from wherewritten.artifacts import interface, read_artifact, write_artifact
from wherewritten.compiling import compile_module
from wherewritten.linking import order, program, run


class TestGroups(ModuleCase):
    def test_mixed_forms(self):
        self.check_values("(list 1) (def x 2) (do x (def y 3) (do)) (list x y)", "(1)", "2", "(2 3)")
        self.check_values("")
        self.assertEqual(made_of("").artifact(), ("module", "m", (), (), (), ()))

    def test_items(self):
        items = made_of("(def x 1) (do 2 (if 3 (do 4 5) 6)) (defmac m 7) (letmac () 8 9) (def y (do 1 2))").artifact()[5]
        number = [("const", ("number", n)) for n in range(10)]
        self.assertEqual(items, (
            ("mac", 0, 0, number[7]), ("def", 0, 0, number[1]), ("expr", 0, 0, number[2]),
            ("expr", 0, 0, ("if", number[3], ("do", (number[4], number[5])), number[6])),
            ("expr", 0, 0, number[8]), ("expr", 0, 0, number[9]), ("def", 0, 1, ("do", (number[1], number[2])))))

    def test_items_of_levels(self):
        text = "(def a 0) (up (def b 1) (up (def c 2) 3) (defmac d 4) (def e 5)) (up (def f 6) (defmac g 7)) (defmac h 8)"
        items = [item[:3] for item in made_of(text).artifact()[5]]
        self.assertEqual(items, [
            ("def", 2, 0), ("expr", 2, 0), ("mac", 1, 0), ("def", 1, 0), ("def", 1, 1), ("mac", 1, 1), ("def", 1, 2),
            ("mac", 0, 0), ("def", 0, 0)])

    def test_levels(self):
        self.check_values("""(def x 1) (up (def x 2) (up (def x 3)) (defmac one (fn (s) (wrap x s))) (def y (+ x (one))))
            (defmac m (fn (s) (wrap y s))) (list x (m))""", "(1 5)")

    def test_errors(self):
        self.check_error("form", "^(def x)")
        self.check_error("form", "(up ^(def (f) 1))")
        self.check_error("form", "(up (do ^(defmac 1 2)))")
        self.check_error("double", "(def x 1) (def ^x 2)")
        self.check_error("double", "(def x 1) (defmac ^x 2)")
        self.check_error("double", "(up (defmac x 1) (up 1) (def ^x 2))")
        self.check_compiles("(def x 1) (up (def x 2) (up (def x 3) (up (def x 4))))")
        self.check_error("unbound", "(def x ^y)")
        self.check_error("unbound", "(defmac x ^y) (def)")
        self.check_error("form", "(def x y) ^(def)")
        self.check_error("run fail", "(up 1 ^(up (def x (fail 1))))")
        self.check_error("unbound", "(up (fail 1) ^nope)")
        self.check_error("run early", "^(up (def x y) (def y 1))")

    def test_phases(self):
        self.check_error("phases", "(up (up (up ^(up))))")
        self.check_error("phases", "(up (up (up (def x 1) ^(up nope))))")
        self.check_error("phases", "(up (up (up ^(defmac m nope))))")
        self.check_error("form", "(up (up (up ^(defmac m))))")
        self.check_compiles("(up (up (defmac m 1) (up (def x 1) x)))")

    def test_each_up_is_done_in_its_place(self):
        self.check_values("(up (def n 1)) (defmac a (fn (s) (wrap n s))) (a) (up (set n 2)) (a) (def x (a)) (up (set n 3)) x",
                          "1", "2", "3")
        self.check_values("(up (def n 1)) (defmac a n) (up (set n 2)) (defmac b n) (defmac show (fn (s) (match s () ((_ m) "
                          "(wrap (local-value m) s))))) (show a) (show b)", "1", "2")

    def test_macros_that_make_groups(self):
        self.check_values("""(defmac at-1 (rules () ((_ f ...) (up f ...)))) (at-1 (def x 5))
            (defmac get (fn (s) (wrap x s))) (get)""", "5")


class TestUse(ModuleCase):
    A = "(def x 1) (def y 2) (defmac m (rules () ((_ e) (list e x)))) (up (def z 3)) (offer x y m) (up (offer z (as z x)))"

    def setUp(self):
        self.artifacts = artifacts_of({"a": self.A, "b": "(use a) (offer x m)", "c": "(def x 5) (offer x)"})

    def check(self, text, *values):
        self.check_values(text, *values, artifacts=self.artifacts)

    def check_wrong(self, code, text):
        self.check_error(code, text, self.artifacts)

    def test_specs(self):
        self.check("(use a) (list x y (m 7)) (defmac k (fn (s) (wrap (+ x z) s))) (k)", "(1 2 (7 1))", "6")
        self.check("(use (only a y)) (def x 4) (list x y)", "(4 2)")
        self.check("(use (except a y x)) (def x 4) (def y 5) (list x y (m 7))", "(4 5 (7 1))")
        self.check("(use (rename a (x y) (m n))) (def x 4) (list x y (n 7))", "(4 1 (7 1))")
        self.check("(use (only a)) (use (rename a)) (def x 4) x", "4")
        self.check("(use (except a)) x", "1")
        self.check("(use) (use (only a x)) x", "1")
        self.check("(use (rename a (x one) (x two) (x one))) (list one two)", "(1 1)")
        self.check("(use (only a x x)) x", "1")
        self.check("(use a b) (m x)", "(1 1)")

    def test_names_keep_what_they_mean(self):
        self.check("(use (only a m)) (let ((x 5) (list 6)) (m x))", "(5 1)")
        self.check("(use (only a m) (only c x)) (m x)", "(5 1)")

    def test_form(self):
        for spec in ("1", "()", "(only)", "(a)", "(nope a)", "(all a)", "(if a)", "((only) a)", "(1 a)", "(only 1)", "(only (a))",
                     "(only a 1)", "(except a (x))", "(rename a x)", "(rename a (x))", "(rename a (x y z))", "(rename a (x 1))",
                     "(rename a (1 x))", "(as a b)"):
            self.check_wrong("form", f"(use ^{spec})")
            self.check_wrong("form", f"(up (up (use a ^{spec})))")
        self.check_wrong("form", "(def only 1) (use ^(only a x))")
        self.check_wrong("form", "(use ^(only nope 1))")
        # A module that is called like a word does not make its variables words.
        told = outcome(compile_module, "only", "(def f 1) (use (f a))", self.artifacts)
        self.assertEqual(told, ("ExpandError", "form", ("only", 6)))

    def test_words_of_specs_can_have_other_names(self):
        self.check("(use c) (def only x) only", "5")
        self.check_wrong("late", "(use (^only c x)) (def only x)")

    def test_module(self):
        self.check_wrong("module", "(use ^nope)")
        self.check_wrong("module", "(use (only ^nope x))")
        self.check_wrong("module", "(use ^m)")
        self.check_wrong("module", "(up (use (except ^m)))")
        self.check_wrong("module", "(use ^core)")
        self.check_error("module", "(use ^m)", {"m": made_of("1").artifact()})
        # The module is asked for ahead of what it offers, and the specs ahead come first.
        self.check_wrong("offer", "(use (only a ^q) nope)")
        self.check_wrong("form", "(use ^1 nope)")

    def test_modules_that_others_use(self):
        self.check_error("module", "(use ^b)", {"b": self.artifacts["b"]})
        self.check_error("module", "(up (use (only ^b)))", {"b": self.artifacts["b"]})

    def test_offer(self):
        self.check_wrong("offer", "(use (only a x ^q r))")
        self.check_wrong("offer", "(use (except a ^q))")
        self.check_wrong("offer", "(use (rename a (x q) (^q x)))")
        # What is offered above the phases is there, but not imported.
        self.check_wrong("unbound", "(up (up (up (use (only a z)) (list ^z))))")

    def test_conflict(self):
        self.check_wrong("conflict", "(def x 1) (use ^a)")
        self.check_wrong("conflict", "(def x 1) (use (only a ^x))")
        self.check_wrong("conflict", "(def x 1) (use (rename a (y ^x)))")
        self.check_wrong("conflict", "(def y 1) (use (except ^a x))")
        self.check_wrong("conflict", "(use a ^c)")
        self.check_wrong("double", "(use a) (def ^x 1)")
        self.check_wrong("conflict", "(up (def z 1)) (use ^a)")
        self.check_wrong("conflict", "(up (def x 1) (use (only a ^x)))")
        self.check_wrong("conflict", "(up (up (use a ^c)))")
        self.check("(up (use a) (use a (only a x))) 1", "1")
        self.check_wrong("conflict", "(use (rename a (x one) (y ^one)))")
        self.check("(def z 1) (use a) (list x z)", "(1 1)")
        self.check("(up (def y 1)) (use a) x", "1")
        self.check("(let ((x 3)) x) (use a) (let ((x 4)) x)", "3", "4")

    def test_names_of_core_can_be_imported(self):
        artifacts = artifacts_of({"a": "(def list 5) (defmac if (rules () ((_ e) e))) (offer list if)"})
        self.check_values("(use a) (if list)", "5", artifacts=artifacts)

    def test_imports_of_macros(self):
        # The set is that of the identifier that brings the name, without use-site scopes.
        self.check("(defmac take (rules () ((_ n ...) (use (only a n ...))))) (take x m) (m x)", "(1 1)")
        self.check_wrong("unbound", "(defmac take (rules () ((_) (use (only a x))))) (take) ^x")
        self.check("(defmac take (rules () ((_ e) (do (use (only a x)) (list e x))))) (def x 9) (take x)", "(9 1)")
        self.check_wrong("unbound", "(defmac take (rules () ((_) (use a)))) (take) ^x")
        self.check("(defmac take (rules () ((_ n) (use n)))) (take a) x", "1")
        self.check("(defmac take (rules () ((_ b) (use (rename a (x b)))))) (take q) q", "1")

    def test_levels(self):
        self.check_wrong("phase", "(up (use a)) ^x")
        self.check("(up (use a)) (defmac k (fn (s) (wrap (+ x y) s))) (k)", "3")
        self.check_wrong("phase", "(up (use a)) (defmac k (fn (s) (list ^z)))")
        self.check("(up (up (use a)) (defmac k (fn (s) (wrap (+ x y) s)))) (defmac j (fn (s) (wrap (k) s))) (j)", "3")
        # x is offered at 0 and at 1, and both are imported where there are phases for them.
        table = made_of("(use a) (up (use (rename a (x q))))", "m", self.artifacts).table()
        self.assertEqual([(row[0], row[3]) for row in table if row[1] == "q"], [(1, ("top", "a", 0, 0)), (2, ("top", "a", 1, 0))])

    def test_phases_of_imports(self):
        texts = {"a": "(def v0 0) (defmac m0 1) (up (def v1 0) (defmac m1 1) (up (def v2 0) (defmac m2 1) (up (def v3 0) "
                      "(offer v3)) (offer v2 m2)) (offer v1 m1)) (offer v0 m0)"}
        artifacts = artifacts_of(texts)
        for level in range(4):
            text = "(up " * level + "(use a)" + ")" * level
            made = made_of(text, "m", artifacts)
            own = [(row[1], row[0]) for row in made.artifact()[4]]
            fitting = [(kind + str(phase), phase + level) for phase in (3, 2, 1, 0) for kind in "vm"
                       if phase + level <= (2 if kind == "m" else 3) and kind + str(phase) != "m3"]
            self.assertEqual(sorted(own), sorted(fitting))
            # Those of the module that is made ready have the same bounds.
            names = [(row[1], row[0]) for row in made.table()]
            self.assertEqual(sorted(names), sorted(own * 2))

    def test_order_of_imports(self):
        made = made_of("(use (rename a (y c) (x d)) (only a y x))", "m", self.artifacts)
        own = [(row[0], row[1], row[4]) for row in made.artifact()[4]]
        text = "(use (rename a (y c) (x d)) (only a y x))"
        x, y = ("a", 2), ("a", 6)
        z = [offer[3] for offer in self.artifacts["a"][3] if offer[:2] == ("x", 1)][0]
        self.assertEqual(own, [(0, "d", ("m", spot(text, "d)"))), (0, "c", ("m", spot(text, "c)"))), (1, "d", ("m", spot(text, "d)"))),
                               (0, "x", x), (0, "y", y), (1, "x", z)])


class TestOffer(ModuleCase):
    def offers_of(self, text, artifacts=None):
        return list(made_of(text, "m", artifacts).artifact()[3])

    def test_offers(self):
        text = "(offer x (as m n)) (def x 1) (defmac m 2) (up (offer y)) (up (def y 3))"
        self.assertEqual(self.offers_of(text), [
            ("x", 0, ("top", "m", 0, 0), ("m", spot(text, "x 1"))),
            ("n", 0, ("macro", "m", 0, 0), ("m", spot(text, "n))"))),
            ("y", 1, ("top", "m", 1, 0), ("m", spot(text, "y 3")))])
        self.assertEqual(self.offers_of("(def x 1) (offer) (up (offer))"), [])

    def test_all(self):
        text = "(def x 1) (defmac m (rules () ((_ a) (do (def hidden 1) (def a 2))))) (m y) (up (def z 1)) (offer (all)) (defmac k 1)"
        self.assertEqual([offer[:3] for offer in self.offers_of(text)], [
            ("x", 0, ("top", "m", 0, 0)), ("m", 0, ("macro", "m", 0, 0)), ("y", 0, ("top", "m", 0, 2)), ("k", 0, ("macro", "m", 0, 1))])
        self.assertEqual([offer[:2] for offer in self.offers_of(text.replace("(offer (all))", "(up (offer (all)))"))], [("z", 1)])
        # The word has the scope of the macro that put it in.
        text = "(defmac m (rules () ((_) (do (def x 1) (offer (all)))))) (def y 2) (m)"
        self.assertEqual([offer[0] for offer in self.offers_of(text)], ["x"])
        text = "(defmac m (rules () ((_ a) (do (def x 1) (offer (a)))))) (def y 2) (m all)"
        self.assertEqual([offer[0] for offer in self.offers_of(text)], ["m", "y"])
        artifacts = artifacts_of({"a": "(def x 1) (offer x)"})
        self.assertEqual(self.offers_of("(use a) (offer (all))", artifacts), [])

    def test_imported_ones(self):
        artifacts = artifacts_of({"a": "(def x 1) (offer x)"})
        self.assertEqual(self.offers_of("(use a) (offer x)", artifacts), [("x", 0, ("top", "a", 0, 0), ("a", 2))])
        text = "(use (rename a (x y))) (offer y)"
        self.assertEqual(self.offers_of(text, artifacts), [("y", 0, ("top", "a", 0, 0), ("m", spot(text, "y)")))])
        self.assertEqual(self.offers_of("(up (use a) (offer x))", artifacts), [("x", 1, ("top", "a", 0, 0), ("a", 2))])
        # So that it gets a phase on when it is used.
        artifacts = artifacts_of({"a": "(def x 1) (offer x)", "b": "(up (use a) (offer x))"})
        self.check_values("(use b) (defmac m (fn (s) (wrap x s))) (m)", "1", artifacts=artifacts)

    def test_form(self):
        for spec in ("1", "()", "(as x)", "(as)", "(as x y z)", "(as 1 y)", "(as x 1)", "(all x)", "(all x y)", "(x)", "(only x)",
                     "(only x y)", "((all))", "(nope)", "#t"):
            self.check_error("form", f"(def x 1) (offer ^{spec})")
            self.check_error("form", f"(up (def x 1) (offer ^{spec}))")
        self.check_error("form", "(def x 1) (def as 1) (offer ^(as x y))")
        self.check_error("form", "(def all 1) (offer ^(all))")

    def test_what_can_not_be_offered(self):
        self.check_error("unbound", "(offer ^x)")
        self.check_error("unbound", "(offer (as ^x y))")
        self.check_error("phase", "(up (def x 1)) (offer ^x)")
        self.check_error("phase", "(def x 1) (up (offer ^x))")
        self.check_error("offer", "(offer ^list)")
        self.check_error("offer", "(offer (as ^if y))")
        self.check_error("ambiguous", """(defmac outer (rules () ((_ inner y) (do (def x 1) (defmac inner (rules () ((_)
            (do (def y 2) (offer ^x))))))))) (outer in x) (in)""")
        # A local variable of phase 1, of which only syntax is left.
        self.check_error("offer", """(up (up (def kept #'0)))
            (defmac j (let ((x 1)) (letmac ((i (do (set kept #'^x) 1))) 1)))
            (up (defmac give (fn (s) (join (list #'offer kept) s))) (give))""")

    def test_conflict(self):
        self.check_error("conflict", "(def x 1) (def y 2) (offer x (as y ^x))")
        self.check_error("conflict", "(def x 1) (offer x (as x ^x))")
        self.check_error("conflict", "(def x 1) (def y 1) (offer (as y x) ^x)")
        self.check_error("conflict", "(def x 1) (def y 2) (offer (as y x) (^all))")
        self.assertEqual(len(self.offers_of("(def x 1) (offer x x (all)) (offer x)")), 1)
        # One name that was written once, and bound twice.
        text = """(defmac two (fn (s) (match s () ((_ n) (match (recolored #'inner n) () (k (fill (do (def n 1) (def k 2) (offer {})))))))))
            (two {}x)"""
        self.check_error("conflict", text.format("n k", "^"))
        self.check_error("conflict", text.format("k n", "^"))
        self.assertEqual(len(self.offers_of(text.format("k k", ""))), 1)
        self.assertEqual(len(self.offers_of("(def x 1) (up (def x 1) (offer x)) (offer x)")), 2)

    def test_when_offers_are_taken(self):
        # Behind pass 1 of the group, ahead of pass 2.
        self.check_error("unbound", "(offer ^x) (list nope)")
        self.check_error("double", "(offer x) (def y 1) (def ^y 2)")
        self.check_error("form", "(offer x ^1) (offer nope) (def x 1)")
        self.check_error("unbound", "(up (offer ^x)) (offer 1)")


class TestShifts(ModuleCase):
    COUNTER = """(def n 0) (def next-number (fn () (set n (+ n 1)) n)) (next-number)
        (defmac next-here (rules () ((_) (next-number)))) (offer next-number next-here)"""

    def test_each_shift_has_variables_of_its_own(self):
        artifacts = artifacts_of({"a": self.COUNTER})
        text = """(use a) (up (use a) (up (use a)) (defmac two (fn (s) (wrap (next-here) s)))
            (def told (list (two) (two) (next-here) (next-here))))
            (defmac m (fn (s) (join (list #'quote (join (list (wrap (first told) s) (wrap (first (rest told)) s)
                (wrap (first (rest (rest told))) s) (wrap (first (rest (rest (rest told)))) s)) s)) s)))
            (m) (next-here) (next-number) (next-here)"""
        # At phase 2 the instance has the shift 2; each begins with the one call of the module.
        self.check_values(text, "(2 3 2 3)", "2", "3", "4", artifacts=artifacts)
        made = made_of(text, "m", artifacts)
        self.assertEqual(made.ready(), [("a", 0), ("a", 1), ("a", 2)])
        sets = {row[2] for row in made.table() if row[1] == "n"}
        self.assertEqual(len(sets), 3)

    def test_each_shift_has_values_of_macros_of_its_own(self):
        artifacts = artifacts_of({"a": "(up (def n 0)) (defmac tick (fn (s) (do (set n (+ n 1)) (wrap n s)))) (offer tick)"})
        text = """(use a) (up (use a) (up (use a) (def q (list (tick)))) (def p (list (tick) (tick) (tick))))
            (def x (list (tick) (tick))) (defmac m (fn (s) (join (list #'list (wrap (first (rest (rest p))) s)) s))) (list x (m) (tick))"""
        self.check_values(text, "((1 2) (3) 3)", artifacts=artifacts)

    def test_nothing_is_seen_by_other_compilings(self):
        artifacts = artifacts_of({"a": self.COUNTER})
        text = "(up (use a)) (defmac m (fn (s) (wrap (next-number) s))) (m) (m) (offer m)"
        self.check_values(text, "2", "3", artifacts=artifacts)
        artifacts["b"] = made_of(text, "b", artifacts).artifact()
        self.check_values("(use b) (m) (m)", "2", "3", artifacts=artifacts)
        self.check_values("(use b) (m) (m)", "2", "3", artifacts=artifacts)

    def test_variables_without_an_instance(self):
        # Level 0 of a module that is made ready for 0 is not evaluated.
        self.check_values("(def x 1) x", "1")
        artifacts = artifacts_of({"a": "(def x 1) (up (def y 2)) (defmac m (fn (s) (wrap y s))) (offer x m)"})
        self.check_values("(use a) (list (m) x)", "(2 1)", artifacts=artifacts)

    def test_ready(self):
        texts = {"a": "1", "b": "(use a) (up (use a))", "c": "(up (use b) (up (use a))) (use b)", "d": "(up (up (use c)))"}
        artifacts = artifacts_of(texts)
        self.assertEqual(made_of(texts["c"], "c", artifacts).ready(), [("a", 1), ("a", 2), ("b", 1), ("a", 0), ("b", 0)])
        # c is made ready for 2: b for 3, a for 3 (and 4, which is too high), a for 4, b for 2 with a for 2 and 3.
        self.assertEqual(made_of(texts["d"], "d", artifacts).ready(), [("a", 3), ("b", 3), ("a", 2), ("b", 2), ("c", 2)])
        self.assertEqual(artifacts["c"][2], (("b", 1), ("a", 2), ("b", 0)))
        self.assertEqual(made_of("(use a a (only a)) (up (use a) (use a))", "m", artifacts).artifact()[2], (("a", 0), ("a", 1)))

    def test_errors_of_items(self):
        artifacts = artifacts_of({"a": "(def x (fail 1)) (def f (fn () (fail 2)))", "b": "(use a)"})
        self.check_error("run fail", "(use b) (up (use (only ^a)))", artifacts)
        self.check_error("run fail", "(up (use ^b))", artifacts)
        self.check_compiles("(use a b)", artifacts)
        artifacts = artifacts_of({"a": "(letmac ((m 1)) 2) (def x (letrec ((y z) (z 1)) y))"})
        self.check_error("run early", "(up (up (use (rename ^a))))", artifacts)

    def test_items_above_phase_3(self):
        artifacts = artifacts_of({"a": "(up (def n 1) (up (def x 1) (defmac m 1)))"})
        begun = [made_of("(up " * level + "(use a)" + ")" * level, "m", artifacts).begun() for level in range(4)]
        # n at 1, 2, 3, -; x at 2, 3, -, -; m at 3, -, -, -.
        self.assertEqual(begun, [3, 2, 1, 0])

    def test_macros_of_higher_levels(self):
        artifacts = artifacts_of({"a": "(up (def n 4) (defmac m (fn (s) (fill (+ n 1))))) (up (offer m))"})
        self.check_values("(use a) (defmac k (fn (s) (wrap (m) s))) (k)", "5", artifacts=artifacts)
        self.check_values("(up (use a) (defmac k (fn (s) (wrap (m) s)))) (defmac j (fn (s) (wrap (k) s))) (j)", "5", artifacts=artifacts)


class TestArtifacts(ModuleCase):
    def test_scopes_are_numbered_anew(self):
        # The use makes scopes, of which nothing is kept.
        plain = made_of("(defmac m (rules () ((_ a) a))) (def f (fn (x) (m x)))").artifact()
        more = made_of("(defmac m (rules () ((_ a) a))) (def f (fn (x) (let ((y x)) (m (m y)))))").artifact()
        self.assertEqual(plain[4], more[4])
        self.assertEqual(plain[5][0], more[5][0])

    def test_bindings_that_are_kept(self):
        text = "(def x 1) (let ((y 2)) y) (let ((z 3)) #'(z w)) (fn (q) (letmac ((k (fn (s) #'q))) (k)))"
        kept = [(row[1], row[3]) for row in made_of(text).artifact()[4]]
        self.assertEqual(kept, [("x", ("top", "m", 0, 0)), ("z", ("local", "m", 1))])
        text = "(defmac m (let ((y 2)) (fn (s) #'y)))"
        artifact = made_of(text).artifact()
        core = ("core", 0, 0)
        self.assertEqual(artifact[4], (
            (1, "y", (core, ("m", 0, 0), ("m", 1, 0)), ("local", "m", 0), ("m", spot(text, "y 2"))),
            (1, "s", (core, ("m", 0, 0), ("m", 1, 0), ("m", 2, 0), ("m", 3, 0)), ("local", "m", 1), ("m", spot(text, "s)"))),
            (0, "m", (core, ("m", 0, 0)), ("macro", "m", 0, 0), ("m", 2))))

    def test_bindings_that_are_kept_for_all_terms(self):
        for term in ("(letrec ((z #'y)) z)", "(letrec ((z 1)) #'y)", "(if 1 #'y 2)", "(do 1 #'y)", "(fn () #'y)", "(let ((z 1)) (set z #'y))",
                     "(list #'y)", "(#'y)", "(fill y)", "(match 1 (y) (y 1))", "(rules () ((_) y))"):
            names = [row[1] for row in made_of(f"(def a (let ((y 1)) {term}))").artifact()[4]]
            self.assertEqual([name for name in names if name in "ay"], ["a", "y"], term)

    def test_bindings_with_empty_sets(self):
        binding = (0, "x", (), ("local", "m", 0), ("m", 1))
        items = (("def", 1, 0, ("syntax", ("id", "y", ("m", 2), ()))), ("def", 0, 0, ("const", ("number", 1))))
        for item in items:
            artifact = ("module", "m", (), (), (binding,), (item,))
            for shift in (0, 1):
                kept = read_artifact(interface(artifact, shift))[4]
                self.assertEqual(kept, (binding,) if item == items[0] else ())

    def test_order_of_the_numbers(self):
        # Plain items come last, though their syntax was made first.
        text = "(def a (let ((x 1)) #'x)) (defmac m (let ((y 1)) #'y))"
        made = made_of(text)
        scopes = [row[2] for row in made.artifact()[4]]
        core = ("core", 0, 0)
        own = [("m", number, 0) for number in range(5)]
        names = [row[1] for row in made.artifact()[4]]
        self.assertEqual(names, ["a", "y", "m", "x"])
        self.assertEqual(scopes[0], (core, own[0]))
        self.assertEqual(scopes[1], (core, own[0], own[1]))
        self.assertEqual(scopes[3], (core, own[0], own[3]))
        self.assertEqual(made.artifact()[5][0][3][1][2][1][3], (core, *own[:3]))
        self.assertEqual(made.artifact()[5][1][3][1][2][1][3], (core, own[0], own[3], own[4]))

    def check_in_order(self, artifact, *names):
        """The artifact has bindings of these names, and is numbered as point 44 tells."""
        self.assertEqual([row[1] for row in artifact[4]], list(names))
        self.assertTrue(is_in_order(artifact, {}))

    def test_numbers_of_scopes_that_come_late(self):
        text = "(defmac m (rules () ((_ a) a))) (m 1) (m 2) (def f (fn (x) #'x)) (up (def g (fn (y) #'y)))"
        made = made_of(text)
        artifact = made.artifact()
        self.check_in_order(artifact, "m", "f", "g", "y", "x")
        core, own = ("core", 0, 0), [("m", number, 0) for number in range(5)]
        self.assertEqual([row[2] for row in artifact[4][3:]], [(core, own[0], own[1]), (core, own[0], own[3])])
        syntax = {item[:3]: item[3][2][1][3] for item in artifact[5] if item[3][0] == "fn"}
        self.assertEqual(syntax, {("def", 1, 0): (core, *own[:3]), ("def", 0, 0): (core, own[0], own[3], own[4])})
        self.assertEqual([kind for kind, _ in made.scopes()].count("introduction"), 2)

    def test_numbers_in_the_order_of_standing(self):
        artifact = made_of("(defmac m2 1) (defmac m (list (let ((a 1)) #'a) (let ((b 1)) #'b)))").artifact()
        self.check_in_order(artifact, "m2", "a", "b", "m")
        core, own = ("core", 0, 0), [("m", number, 0) for number in range(5)]
        a, b = artifact[5][1][3][2]
        self.assertEqual(a[1][2][1][3], (core, own[0], own[1], own[3]))
        self.assertEqual(b[1][2][1][3], (core, own[0], own[2], own[4]))

    def test_scopes_of_others_stay(self):
        artifacts = artifacts_of({"a": "(defmac m (rules () ((_ e) (let ((t e)) #'(t e))))) (offer m)"})
        artifact = made_of("(use a) (def x (let ((q 1)) (m q)))", "z", artifacts).artifact()
        self.assertTrue(is_in_order(artifact, artifacts))
        scopes = {scope for row in artifact[4] for scope in row[2]}
        self.assertIn(("a", 0, 0), scopes)
        self.assertEqual(sorted(scope for scope in scopes if scope[0] == "z"), [("z", number, 0) for number in range(len(scopes) - 2)])

    def test_bindings_of_which_no_syntax_has_all_scopes(self):
        text = "(defmac m (rules () ((_ e) (do #'q (let ((t 1)) e))))) (def f (fn (x) (m #'x)))"
        artifact = made_of(text).artifact()
        self.check_in_order(artifact, "m", "f", "x")

    def test_a_binding_that_only_a_plain_item_keeps(self):
        # z is bound at phase 1, ahead of w; of what has its scopes only a term of level 0 is left.
        artifact = made_of("""(up (up (def kept #'1)) (let ((z 1)) (letmac ((j (set kept #'z))) 5))
            (defmac get (fn (s) (join (list #'syntax kept) s)))) (defmac later (let ((w 1)) #'w))
            (def a (letmac ((g (let ((v (get))) (fn (s) (join (list #'syntax v) s))))) (g)))""").artifact()
        names = [row[1] for row in artifact[4]]
        self.assertLess(names.index("z"), names.index("w"))
        self.assertTrue(is_in_order(artifact, {}))
        self.assertNotIn("z", [row[1] for row in read_artifact(interface(artifact, 0))[4]])
        self.assertIn("z", [row[1] for row in read_artifact(interface(artifact, 1))[4]])

    def test_syntax_in_all_terms_is_shifted(self):
        for term in ("#'helper", "(do 1 #'helper)", "(if #t #'helper 1)", "(if #f 1 #'helper)", "(let ((x #'helper)) x)",
                     "(letrec ((x #'helper)) x)", "(let () (def x 1) #'helper)", "(let ((x 1)) (set x #'helper))", "((fn () #'helper))",
                     "(first (parts #'(helper)))", "(match s () (a (fill helper)))", "((rules () ((_) helper)) #'(m))",
                     "(match #'(helper 1) (helper) ((helper a) #'helper))"):
            artifacts = artifacts_of({"a": f"(def helper 5) (defmac m (fn (s) {term})) (offer m)"})
            self.check_values("(use a) (list (m)) (up (use a) (def q (m))) (defmac k (fn (s) (wrap q s))) (k)", "(5)", "5",
                              artifacts=artifacts)

    def test_module_names_ahead_of_core(self):
        artifact = made_of("(def x #'x)", "a").artifact()
        self.assertEqual(artifact[4][0][2], (("a", 0, 0), ("core", 0, 0)))
        self.assertEqual(artifact[5][0][3][1][3], (("a", 0, 0), ("core", 0, 0)))

    def test_texts(self):
        self.assertEqual(write_artifact(("module", "m", (), (("x", 0, ("top", "m", 0, -1), ("m", 12)),), (True, False, None))),
                         "(6:module 1:m () ((1:x 0 (3:top 1:m 0 -1) (1:m 12))) (t f n))")
        for name, artifact in artifacts_of({name: SAMPLES[name] for name in ORDER}).items():
            self.assertEqual(read_artifact(write_artifact(artifact)), artifact)
        artifact = made_of("(def x \"a (b) 3:c\") (def y -12) (def z '(#t #f))").artifact()
        self.assertEqual(read_artifact(write_artifact(artifact)), artifact)
        self.assertIs(type(read_artifact(write_artifact(artifact))[5][2][3][1][1][0][1]), bool)
        deep = ("list", ())
        for _ in range(2000):
            deep = ("list", (deep,))
        text = write_artifact(deep)
        self.assertEqual(write_artifact(read_artifact(text)), text)

    def test_artifacts_that_were_read_are_as_good(self):
        whole = artifacts_of({name: SAMPLES[name] for name in ORDER})
        again = {}
        for name in ORDER:
            artifact = compile_module(name, SAMPLES[name], again).artifact()
            again[name] = read_artifact(write_artifact(artifact))
            self.assertEqual(again[name], whole[name])

    def test_any_order_of_compiling_gives_the_same(self):
        needs = {"user": ["logic", "count"], "high": ["logic", "count", "user"]}
        whole = artifacts_of({name: SAMPLES[name] for name in ORDER})
        rng = seeded(5)
        for _ in range(5):
            left = list(SAMPLES)
            rng.shuffle(left)
            known = {}
            while left:
                for name in list(left):
                    if all(need in known for need in needs.get(name, [])):
                        # More artifacts than are needed do no harm.
                        known[name] = compile_module(name, SAMPLES[name], known).artifact()
                        left.remove(name)
            self.assertEqual(known, whole)

    def test_what_is_handed_in_stays_as_it_is(self):
        artifacts = artifacts_of({"a": "(def x 1) (offer x)"})
        before = dict(artifacts)
        made = made_of("(use a) x", "m", artifacts)
        self.assertEqual(artifacts, before)
        artifacts.clear()
        self.assertEqual(made.artifact(), made_of("(use a) x", "m", before).artifact())
        for name in ("ready", "steps", "arrows", "links", "fixed", "scopes", "table"):
            first = getattr(made, name)()
            self.assertIsInstance(first, list)
            first.append(1)
            self.assertNotEqual(first, getattr(made, name)())

    def test_interfaces(self):
        artifact = made_of("(def a (let ((x 1)) #'x)) (up (def b #'c)) (defmac m (let ((y 1)) #'y)) (offer a)").artifact()
        kinds = {shift: [item[:2] for item in read_artifact(interface(artifact, shift))[5]] for shift in range(4)}
        self.assertEqual(kinds[0], [("def", 1), ("mac", 0)])
        self.assertEqual(kinds[1], [("def", 1), ("mac", 0), ("def", 0)])
        self.assertEqual(kinds[2], [("def", 1), ("mac", 0), ("def", 0)])
        self.assertEqual(kinds[3], [("def", 0)])
        names = {shift: [row[1] for row in read_artifact(interface(artifact, shift))[4]] for shift in range(4)}
        self.assertEqual(names[0], ["a", "b", "y", "m"])
        self.assertEqual(names[1], ["a", "b", "y", "m", "x"])
        self.assertEqual(names[3], ["a", "b", "m", "x"])
        for shift in range(4):
            told = read_artifact(interface(artifact, shift))
            self.assertEqual(told[:4], artifact[:4])
            self.assertEqual([item for item in artifact[5] if item in told[5]], list(told[5]))
            self.assertEqual([row for row in artifact[4] if row in told[4]], list(told[4]))

    def test_interfaces_do_not_hang_on_plain_items(self):
        # The same places, other scopes.
        text = "(defmac m (rules () ((_ a) (let ((t a)) (list t n))))) (def n 1) (offer m n) (def k {})"
        first = made_of(text.format("(let ((z 1)) (m #'z))")).artifact()
        second = made_of(text.format("(fn (z) (list (z) '5))")).artifact()
        self.assertEqual(interface(first, 0), interface(second, 0))
        self.assertNotEqual(interface(first, 1), interface(second, 1))


class TestLinking(ModuleCase):
    def test_order_and_programs(self):
        texts = {"a": "(def x 1)", "b": "(use a) (def y 2) 3", "c": "(up (use b)) (use a) (defmac m 1) '(4 5)",
                 "d": "(use c b) (use a) (def f (fn (p q) (if p q \"x\")))", "e": "(up (use d)) 1"}
        artifacts = artifacts_of(texts)
        self.assertEqual(order(artifacts, "d"), ["a", "c", "b", "d"])
        self.assertEqual(order(artifacts, "e"), ["e"])
        self.assertEqual(program(artifacts, "d"), "module a\n(def a:0:0 1)\nmodule c\n(quote (4 5))\nmodule b\n(def b:0:0 2)\n3\n"
                                                  "module d\n(def d:0:0 (fn (v0 v1) (if v0 v1 \"x\")))\n")
        self.assertEqual(run(artifacts, "d", 100), [("c", "(4 5)"), ("b", "3")])
        self.assertEqual(program(artifacts, "e"), "module e\n1\n")

    def test_variables_of_other_modules(self):
        artifacts = artifacts_of({"a": "(def x 1) (def set-x (fn (v) (set x v))) (offer (all))", "b": "(use a) (set-x 5) (def y x) (offer x)",
                                  "c": "(use b) x"})
        self.assertEqual(run(artifacts, "c", 100), [("b", "5"), ("c", "5")])
        self.assertEqual(program(artifacts, "c"), "module a\n(def a:0:0 1)\n(def a:0:1 (fn (v0) (set a:0:0 v0)))\n"
                                                  "module b\n(a:0:1 5)\n(def b:0:0 a:0:0)\nmodule c\na:0:0\n")
        # Each run has variables of its own.
        self.assertEqual(run(artifacts, "c", 100), run(artifacts, "c", 100))

    def test_missing(self):
        artifacts = artifacts_of({"a": "1", "b": "(use a)", "c": "(use a b)", "d": "(up (use a)) (use c)"})
        for name in ("order", "program"):
            action = {"order": order, "program": program}[name]
            self.assertEqual(outcome(action, {}, "x"), ("ModuleError", "missing", ("x",)))
            known = {"d": artifacts["d"], "c": artifacts["c"]}
            self.assertEqual(outcome(action, known, "d"), ("ModuleError", "missing", ("a", "b")))
            self.assertEqual(outcome(action, {"d": artifacts["d"]}, "d"), ("ModuleError", "missing", ("c",)))
        self.assertEqual(outcome(run, {"b": artifacts["b"]}, "b", 0), ("ModuleError", "missing", ("a",)))
        up = artifacts_of({"a": "1", "b": "(up (use a)) 2"})
        self.assertEqual(run({"b": up["b"]}, "b", 1), [("b", "2")])

    def test_errors_and_fuel(self):
        artifacts = artifacts_of({"a": "1 (list 2) (fail 3)"})
        self.assertEqual(outcome(run, artifacts, "a", 100), ("RunError", "fail", ("a", 4)))
        artifacts = artifacts_of({"a": "1 (list 2)"})
        self.assertEqual(outcome(run, artifacts, "a", 4), ("gives", [("a", "1"), ("a", "(2)")]))
        self.assertEqual(outcome(run, artifacts, "a", 3), ("RunError", "fuel", None))
        self.check_run_error("early", "(list 1) (list ^x) (def x 1)")
        self.check_run_error("early", "(set ^x 1) (def x 1)")
        self.check_run_error("expanding", "^(free=? #'a #'b)")
        self.check_run_error("expanding", "(def m (rules () ((_) 1))) ^(m #'(m))")

    def test_long_chains(self):
        texts = {"m0": "(def x 1) (offer x)"}
        for number in range(1, 60):
            texts[f"m{number}"] = f"(use m{number - 1}) (offer x)"
        artifacts = artifacts_of(texts)
        self.assertEqual(len(order(artifacts, "m59")), 60)
        self.check_values("(use m59) x (up (use m58)) (defmac m (fn (s) (wrap x s))) (m)", "1", "1", artifacts=artifacts)


class TestSamples(unittest.TestCase):
    VALUES = {
        "swap": ["1", "(2 1)", "(6 5)"],
        "logic": ["5", "(1 2)", "2"],
        "count": ["11", "16", "3"],
        "user": ["(17 20 14 3)", "7", "22"],
        "high": ["(8 20 24)", "23"],
        "matcher": ["6", "20", "(6 4 11)", "(3)"],
        "hygiene": ["2", "100", "(1 2)", "(9 9)"],
        "nested": ["((1 2 0) (3 0) (0))", "(#t #f)", "(4 3 3)"],
        "tools": ["(#t #f #t #t #t #f)", "(6 5)", "1", "2", "3", "(5 5)"],
    }

    def test_values(self):
        artifacts = artifacts_of({name: SAMPLES[name] for name in ORDER})
        for name in SAMPLES:
            told = [value for module, value in run(artifacts, name, 100000) if module == name]
            self.assertEqual(told, self.VALUES[name], name)


if __name__ == "__main__":
    unittest.main()
