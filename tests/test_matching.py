"""The words match and fill (points 72 and 73)."""

import unittest

from checks import ModuleCase
from helper import made_of, spot
from wherewritten.compiling import expanded


class TestMatch(ModuleCase):
    def test_terms(self):
        self.assertEqual(expanded("(match 1 ())"), "((fn (v0) (fail 0)) 1)")
        self.assertEqual(
            expanded("(match (list 1) (k) ((_ k) 2))"),
            "((fn (v0) ((fn (v1) (if v1 ((fn () 2)) (fail 0))) ((pattern (main@6) (_ main@10)) v0))) (list 1))")
        self.assertEqual(
            expanded("(match 5 () ((a b ...) a b) (c 1))"),
            "((fn (v0) ((fn (v1) (if v1 ((fn (v2 v3) (do v2 v3)) (first v1) (first (rest v1))) "
            "((fn (v4) (if v4 ((fn (v5) 1) (first v4)) (fail 0))) ((pattern () main@12) v0)))) "
            "((pattern () (main@6 main@7 ...)) v0))) 5)")

    def test_parts_of_the_term(self):
        text = "(def f (fn (s) (match s (k) ((a k b) b))))"
        _, _, _, term = made_of(text).artifact()[5][0]
        o, clause = ("m", spot(text, "(match")), ("m", spot(text, "((a"))
        core, own = ("core", 0, 0), [("m", number, 0) for number in range(4)]
        around = (core, *own[:3])
        within = (core, *own[:3], own[3])
        places = {name: ("m", spot(text, mark)) for name, mark in (("k", "k) (("), ("a", "a k"), ("k2", "k b"), ("b", "b) b"))}
        literals = ("list", (("id", "k", places["k"], around),), ("m", spot(text, "(k) ")))
        pattern = ("list", (("id", "a", places["a"], within), ("id", "k", places["k2"], around),
                            ("id", "b", places["b"], within)), ("m", spot(text, "(a k")))
        form = ("list", (literals, pattern), clause)
        told = ("call", ("pattern", form), (("local", 1, o),), o)
        first = ("call", ("prim", "first"), (("local", 2, o),), o)
        rest = ("call", ("prim", "rest"), (("local", 2, o),), o)
        second = ("call", ("prim", "first"), (rest,), o)
        body = ("local", 4, ("m", spot(text, "b))))")))
        fail = ("call", ("prim", "fail"), (("const", ("number", 0)),), o)
        choice = ("if", ("local", 2, o), ("call", ("fn", (3, 4), body), (first, second), o), fail)
        clauses = ("call", ("fn", (2,), choice), (told,), o)
        matched = ("local", 0, ("m", spot(text, "s (k)")))
        self.assertEqual(term, ("fn", (0,), ("call", ("fn", (1,), clauses), (matched,), o)))

    def test_numbers_of_variables(self):
        # The e has numbers ahead of t, the body of a clause behind its variables and ahead of the next r.
        text = "(def f (match (fn (a) 1) () (x (fn (b) 2)) ((y) 3)))"
        _, _, _, term = made_of(text).artifact()[5][0]
        self.assertEqual(term[1][1], (1,))
        first = term[1][2]
        self.assertEqual(first[1][1], (2,))
        self.assertEqual(first[1][2][2][1], ("fn", (3,), ("fn", (4,), ("const", ("number", 2)))))
        self.assertEqual(first[1][2][3][1][1], (5,))

    def test_values(self):
        run = "(defmac m (fn (s) (match s (else) {}))) "
        self.check_values(run.format("((_ a) #'1) ((_ a b) b)") + "(m 5) (m 5 6)", "1", "6")
        self.check_values(run.format("((_ else) #'1) ((_ b) #'2)") + "(m else) (m if) (let ((else 1)) (m else))", "1", "2", "2")
        self.check_values(run.format("((_ (a b ...) ...) (fill '((b ... a) ...)))") + "(m (1 2 3) (4))", "((2 3 1) (4))")
        self.check_values(run.format("((_ 1 #t \"x\") #'1) (_ #'2)") + "(m 1 #t \"x\") (m 1 #t \"y\") m", "1", "2", "2")
        self.check_values(run.format("((_ a ...) (wrap (+ 0 (if (empty? a) 0 (datum (first a)))) s))") + "(m) (m 8 9)", "0", "8")
        self.check_error("run fail", run.format("((_ a) a)") + "^(m)")
        self.check_error("run fail", run.format("") + "^(m)")
        self.check_error("run kind", "(up (def f (fn (x) (match x () (a 1))))) ^(up (f 1))")
        self.check_values("(match #'(1 2) () ((a b) (list (datum b) (datum a))))", "(2 1)")

    def test_bodies_of_clauses(self):
        self.check_values("(match #'5 () (a (def b (datum a)) (def c b) (list b c)))", "(5 5)")
        self.check_values("(match #'5 () (a (set a 1) (list a a)))", "(1 1)")
        self.check_error("form", "(match #'5 () ^(a (def b 1)))")
        self.check_error("order", "(match #'5 () (a a ^(def b 1) b))")
        self.check_error("unbound", "(match ^nope () (a a))")
        self.check_error("unbound", "(match #'1 () ((a b) a) (c ^a))")

    def test_form(self):
        for form in ("(match)", "(match 1)", "(match 1 x)", "(match 1 (2))", "(match 1 ((x)))", "(match 1 () x)", "(match 1 () (x))",
                     "(match 1 () (x 1) ())", "(match nope () (x))"):
            self.check_error("form", f"(list ^{form})")
            self.check_error("form", f"(up (defmac m (fn (s) ^{form})))")

    def test_errors_of_patterns(self):
        self.check_error("double", "(match 1 () ((a (b ^a)) 1))")
        self.check_error("dots", "(match 1 () ((^... a) 1))")
        self.check_error("dots", "(match 1 () ((a ... b ^...) 1))")
        self.check_error("dots", "(match 1 () (^... 1))")
        self.check_compiles("(match 1 () (((((a ...) ...) ...) ...) 1))")
        self.check_error("depth", "(match 1 () ((((((a ^...) ...) ...) ...) ...) 1))")
        # The e comes ahead of them, and the bodies of clauses ahead do.
        self.check_error("unbound", "(match ^nope () (... 1))")
        self.check_error("unbound", "(match 1 () (a ^nope) (... 1))")
        self.check_error("dots", "(match 1 () (^... nope) (b nope))")
        # Unlike the first part of a clause of rules, this one is looked at.
        self.check_error("double", "(match 1 () ((a ^a) 1))")
        # A literal may stand often, and for itself.
        self.check_compiles("(match 1 (a) ((a a) 1) (a 2))")

    def test_40_variables(self):
        names = [f"x{number}" for number in range(41)]
        text = "(def f (fn (s) (match s () {}(({}) (list x0 x39)))))"
        self.check_compiles(text.format("", " ".join(names[:40])))
        self.check_error("form", text.format("^", " ".join(names)))
        self.check_compiles("(def f (fn (s) (match s () ((_ " + " ".join(names[:40]) + ") 1) ((" + " ".join(names[1:]) + ") 2))))")
        self.check_error("form", "(match 1 () ^((" + " ".join(names) + ") nope))")

    def test_deep(self):
        clauses = " (1 2)"
        self.check_compiles("(match 1 ()" + clauses * 38 + ")")
        # The body of a clause is inside of the match, of two more, and of as many as there are clauses ahead of it.
        self.check_error("deep", "(match 1 ()" + clauses * 38 + "(1 ^2))")
        self.check_error("deep", "(match 1 ()" + clauses * 38 + "(1 ^2) (1 2))")
        self.check_error("deep", "^(match 1 ()" + clauses * 41 + ")")
        self.check_error("deep", "^(match nope ()" + clauses * 41 + ")")
        self.check_error("form", "^(match nope ()" + clauses * 41 + " 1)")
        around = "(do " * 20 + "{}" + ")" * 20
        self.check_error("deep", "(def x " + around.format("^(match 1 ()" + clauses * 21 + ")") + ")")
        self.check_error("deep", "(def x " + around.format("(match 1 ()" + clauses * 18 + "(1 ^2))") + ")")
        self.check_compiles("(def x " + around.format("(match 1 ()" + clauses * 18 + ")") + ")")
        nested = "(match 1 () (1 " * 13 + "{}2" + "))" * 13
        self.check_compiles("(def x " + nested.format("") + ")")
        self.check_compiles("(def x (do " + nested.format("") + "))")
        self.check_error("deep", "(def x (do (do " + nested.format("^") + ")))")

    def test_macros_that_make_clauses(self):
        self.check_values("""(up (defmac clause-for (rules () ((_ s (p r) ...) (match s () (p (fill r)) ...)))))
            (defmac m (fn (s) (clause-for s ((_ a) (a a)) ((_ a b) (list b a)))))
            (m 1 2) (let ((list +)) (m 1 2))""", "(2 1)", "(2 1)")


class TestFill(ModuleCase):
    def test_terms(self):
        text = "(fn (s) (match s () ((a b ...) (fill (b ... c (a b) ...)))))"
        self.assertEqual(
            expanded(text),
            "(fn (v0) ((fn (v1) ((fn (v2) (if v2 ((fn (v3 v4) ((template ($0 ... main@18 ($1 $0) ...)) v4 v3)) "
            "(first v2) (first (rest v2))) (fail 0))) ((pattern () (main@10 main@11 ...)) v1))) v0))")
        self.assertEqual(expanded("(fill (a 1))"), "((template (main@3 1)))")

    def test_rows_and_arguments(self):
        text = "(def f (fn (s) (match s () ((a b ...) (fill (b ... a (a b) ...))))))"
        item = made_of(text).artifact()[5][0][3]
        call = item[2][1][2][1][2][2][1][2]
        core, own = ("core", 0, 0), [("m", number, 0) for number in range(5)]
        # Those of the module, the fn and its body, the clause and its body.
        scopes = (core, *own)
        self.assertEqual(call[1][2], (("b", scopes, 0, 1), ("a", scopes, 1, 0)))
        self.assertEqual(call[2], (("local", 4, ("m", spot(text, "b ... a"))), ("local", 3, ("m", spot(text, "a (a")))))
        self.assertEqual(call[3], ("m", spot(text, "(fill")))

    def test_values(self):
        run = "(defmac m (fn (s) (match s () ((_ a b ...) {})))) "
        self.check_values(run.format("(fill (list a (+ b a) ...))") + "(m 1 2 3)", "(1 3 4)")
        self.check_values(run.format("(let ((a #'7)) (fill (list a b ...)))") + "(def a 0) (m 1 2)", "(0 2)")
        self.check_values(run.format("(match #'9 () (a (fill (list a b ...))))") + "(m 1 2)", "(9 2)")
        self.check_values(run.format("(fill (... '(1 a)))") + "(m 5)", "(1 5)")
        self.check_values(run.format("(do (set a #'8) (fill a))") + "(m 5)", "8")
        self.check_error("run kind", run.format("(do (set a 8) (fill a))") + "^(m 5)")
        self.check_error("run lengths", "(defmac m (fn (s) (match s () ((_ (a ...) (b ...)) (fill ((a b) ...)))))) ^(m (1) ())")
        # It stands for itself where it is no pattern variable.
        self.check_values("(def x 3) (defmac m (fn (s) (fill (list x)))) (let ((x 4) (list 1)) (m))", "(3)")

    def test_one_variable_by_two_identifiers(self):
        # The identifier of a template of rules has one scope more than the one that is handed in.
        self.check_values("""(up (defmac fill-with (rules () ((_ a body) (match #'5 () (a (fill (list a body))))))))
            (defmac m (fn (s) (fill-with x x))) (m)""", "(5 5)")

    def test_errors(self):
        run = "(def f (fn (s) (match s () ((_ a b ...) {}))))"
        self.check_error("form", run.format("^(fill)"))
        self.check_error("form", run.format("^(fill a b)"))
        self.check_error("dots", run.format("(fill (a ^...))"))
        self.check_error("dots", run.format("(fill (^... a b))"))
        self.check_error("dots", run.format("(fill ^...)"))
        self.check_error("depth", run.format("(fill (a ^b))"))
        self.check_error("depth", run.format("(fill ((^b ...) ...))"))
        self.check_error("dots", run.format("(list (fill (1 ^...)))"))

    def test_scope(self):
        self.check_error("scope", """(up (up (def kept #'0))) (up (defmac get (fn (s) kept)))
            (defmac m (fn (s) (match s () ((_ a) (letmac ((k (do (set kept #'(fill ^a)) 1))) (fill a))))))
            (defmac n (fn (s) (get)))""")

    def test_ambiguous_ahead_of_scope_and_form(self):
        text = """(defmac outer (rules () ((_ inner y) (do (def x 1) (defmac inner (rules () ((_) (do (def y 2) {})))))))) (outer in x) (in)"""
        self.check_error("ambiguous", text.format("(fill (1 ^x))"))
        self.check_error("ambiguous", text.format("(fill ((... (... ...)) 1 ^x))"))

    def test_what_is_noted(self):
        text = """(def x 1) (defmac n 1) (defmac m (fn (s) (match s () ((_ a) (let ((y 1)) (fill (a x n y s list if nope)))))))"""
        made = made_of(text)
        places = {name: spot(text, mark) for name, mark in (
            ("a", "a x n"), ("y", "y s list"), ("s", "s list"), ("list", "list if"), ("if", "if nope"), ("nope", "nope"))}
        self.assertEqual([kind for _, _, kind, _ in made.tale(("m", places["a"]))], ["bound"])
        self.assertEqual([target[0] for _, _, _, target in made.tale(("m", places["y"]))], ["local"])
        self.assertEqual([target[0] for _, _, _, target in made.tale(("m", places["s"]))], ["local"])
        for name in ("list", "if", "nope"):
            self.assertEqual(made.tale(("m", places[name])), [])
            self.assertNotIn(("m", places[name]), made.fixed())
        arrows = dict(made.arrows())
        self.assertEqual(arrows[("m", places["a"])], ("m", spot(text, "a) (let")))
        self.assertEqual(arrows[("m", places["y"])], ("m", spot(text, "y 1")))
        # At phase 1 x and n are bound to nothing.
        self.assertEqual(made.tale(("m", spot(text, "x n y"))), [])


if __name__ == "__main__":
    unittest.main()
