"""Expressions, and each word with its form and its errors (points 28 to 33)."""

import unittest

from checks import ModuleCase
from helper import made_of, marked, outcome
from wherewritten.compiling import compile_module, expanded


class TestExpanded(ModuleCase):
    def check(self, text, term):
        self.assertEqual(expanded(text), term)

    def check_wrong(self, code, text):
        clean, place = marked(text)
        self.assertEqual(outcome(expanded, clean), ("ExpandError", code, ("main", place)), text)

    def test_terms(self):
        self.check("12", "12")
        self.check("\"a b\"", "\"a b\"")
        self.check("#f", "#f")
        self.check("list", "list")
        self.check("(list 1 (+ 2 3))", "(list 1 (+ 2 3))")
        self.check("((fn (x y) (list y x)) 1 2)", "((fn (v0 v1) (list v1 v0)) 1 2)")
        self.check("(fn () 1)", "(fn () 1)")
        self.check("(let ((x 1) (y 2)) (list x y))", "((fn (v0 v1) (list v0 v1)) 1 2)")
        self.check("(let () 1)", "((fn () 1))")
        self.check("(letrec ((f (fn (n) (g n))) (g f)) (f 1))",
                   "(letrec ((v0 (fn (v2) (v1 v2))) (v1 v0)) (v0 1))")
        self.check("(letrec () 1)", "(letrec () 1)")
        self.check("(fn (x) (set x (+ x 1)))", "(fn (v0) (set v0 (+ v0 1)))")
        self.check("(if 1 2 3)", "(if 1 2 3)")
        self.check("'(1 #t \"a\" (2) ())", "(quote (1 #t \"a\" (2) ()))")
        self.check("'5", "5")
        self.check("#'(a ...)", "(syntax (main@3 ...))")
        self.check("(rules (k) ((_ k a) a))", "(rules (main@3) ((_ main@7 main@8) main@9))")

    def test_do_is_flat(self):
        self.check("(do 1)", "1")
        self.check("(do 1 2)", "(do 1 2)")
        self.check("(do 1 (do 2 (do 3 4)) (do 5))", "(do 1 2 3 4 5)")
        self.check("(do (if 1 2 (do 3 4)) 5)", "(do (if 1 2 (do 3 4)) 5)")
        self.check("(do (letmac () 1 2) 3)", "(do 1 2 3)")
        self.check("(fn () 1 (do 2 3))", "(fn () (do 1 2 3))")

    def test_bodies(self):
        self.check("(fn (x) (def y x) (def z y) (list y z))",
                   "(fn (v0) (letrec ((v1 v0) (v2 v1)) (list v1 v2)))")
        self.check("(fn () (do (def y 1) (do)) (do y y))", "(fn () (letrec ((v0 1)) (do v0 v0)))")
        self.check("(fn (x) (def x 2) x)", "(fn (v0) (letrec ((v1 2)) v1))")

    def test_only_one_form(self):
        self.assertEqual(outcome(expanded, ""), ("ExpandError", "form", ("main", 0)))
        self.assertEqual(outcome(expanded, "1 2"), ("ExpandError", "form", ("main", 0)))
        self.assertEqual(outcome(expanded, "(1"), ("ReadError", 2))
        self.check_wrong("unbound", "(list ^x)")
        self.check_wrong("place", "^(def x 1)")

    def test_phase_and_depth(self):
        nested = "(letmac ((a (recmac ((b (letmac ((c {})) 1))) 1))) 1)"
        self.check(nested.format("1"), "1")
        self.check_wrong("phases", nested.format("^(letmac () 1)"))
        self.check("(do " * 40 + "1" + ")" * 40, "1")
        self.check_wrong("deep", "(do " * 41 + "^1" + ")" * 41)

    def test_it_uses_nothing(self):
        self.check_wrong("place", "^(use main)")


class TestExpressions(ModuleCase):
    def test_identifiers(self):
        self.check_values("(def x 4) x (let ((y x)) y) list", "4", "4", "procedure")
        self.check_error("unbound", "(list 1 ^nope)")
        self.check_error("unbound", "^nope")
        self.check_error("unbound", "(^nope 1)")
        self.check_error("phase", "(up (def x 1)) (list ^x)")
        self.check_error("phase", "(def x 1) (up (list 1 (list ^x)))")
        self.check_error("word", "(list 1 ^if)")
        self.check_error("word", "^fn")
        self.check_error("word", "((list ^do) 1)")
        self.check_error("word", "(fn (x) ^quote)")
        for word in ("do", "def", "defmac", "use", "offer", "up", "all", "match", "fill"):
            self.check_error("word", f"1 ^{word}")
            self.check_error("word", f"(let () ^{word})")

    def test_terms_of_identifiers(self):
        items = made_of("(def x list) (fn (y) y x)").artifact()[5]
        self.assertEqual([item[3] for item in items], [
            ("prim", "list"), ("fn", (0,), ("do", (("local", 0, ("m", 8)), ("top", "m", 0, 0, ("m", 9)))))])

    def test_modules_that_are_called_like_words(self):
        for name in ("do", "def", "up", "macro", "word"):
            made = compile_module(name, "(def f list) (f 1 2) (f)", {})
            self.assertEqual([item[0] for item in made.artifact()[5]], ["def", "expr", "expr"])

    def test_words_and_primitives_have_no_standing(self):
        self.check_values("(let ((if list) (list 5)) (if list list))", "(5 5)")
        self.check_values("(let ((quote +)) (quote 3 4))", "7")
        self.check_values("(def fn 3) (+ fn 1)", "4")
        self.check_values("(let ((fill 1) (match 2)) (+ fill match))", "3")

    def test_atoms(self):
        self.check_error("form", "(list ^...)")
        self.check_error("form", "^_")
        self.check_error("form", "(fn (x) (list ^_))")

    def test_calls(self):
        self.check_error("form", "(list ^())")
        self.check_run_error("apply", "(list ^(1 2))")
        self.check_run_error("apply", "^(((fn () 1)))")
        self.check_values("((if #f + list) 1 2)", "(1 2)")

    def test_words_without_a_place(self):
        for form in ("(def x 1)", "(defmac x 1)", "(up 1)", "(use a)", "(offer a)", "(only a)", "(except a)", "(rename a)",
                     "(as a b)", "(all)", "(def)", "(use)"):
            self.check_error("place", f"(list 1 ^{form})")
            self.check_error("place", f"(if 1 ^{form} 2)")
        for form in ("(only a)", "(except a)", "(rename a)", "(as a b)", "(all)"):
            self.check_error("place", f"1 ^{form}")
            self.check_error("place", f"(up ^{form})")
        for form in ("(only a)", "(all)", "(up 1)", "(use a)", "(offer x)"):
            self.check_error("place", f"(fn (x) 1 ^{form})")
            # The first pass meets them, ahead of what is wrong in expressions.
            self.check_error("place", f"(fn (x) nope ^{form})")
        self.check_error("place", "nope ^(as x y)")

    def test_deep(self):
        # Each of these stands for one expression, and for up to three lists.
        for begin, end in (("(fn () ", ")"), ("(let () ", ")"), ("(do ", " 1)"), ("(if ", " 1 2)"), ("(set y ", ")"),
                           ("(let ((x ", ")) 1)"), ("(letrec ((x ", ")) 1)"), ("(letmac () ", ")"), ("(fn () (do ", "))"),
                           ("(fn () (def x ", ") x)")):
            text = "(def y " + "(do " * 32 + "{}" + begin * 8 + "{}1" + end * 8 + "{}" + ")" * 32 + ")"
            self.check_compiles(text.format("", "", ""))
            self.check_error("deep", text.format("(do ", "^", ")"))
        self.check_compiles("(list " * 40 + "1" + ")" * 40)
        self.check_error("deep", "(list " * 40 + "(^list 1)" + ")" * 40)
        self.check_error("deep", "(def x " + "(list " * 40 + "(^nope)" + ")" * 40 + ")")
        self.check_compiles("(def x " + "(list " * 40 + "1" + ")" * 40 + ")")
        self.check_error("deep", "(up (defmac x " + "(do " * 41 + "^(def)" + ")" * 42 + ")")

    def test_deep_by_macros(self):
        text = "(recmac ((m (rules () ((_ e) e) ((_ e x y ...) (list (m e y ...)))))) (m {} {}))"
        # The use stands in one list; each x puts a list around it.
        self.check_values("(def r " + text.format("1", "x " * 39) + ") (number? r)", "#f")
        self.check_error("deep", "(def r " + text.replace("(list (m", "(^list (m").format("1", "x " * 40) + ")")

    def test_deep_macros_in_bodies(self):
        # What is defined in a body stands in the list whose body it is.
        head = "(let () " * 39
        self.check_compiles(head + "(let () (defmac m 1) 1)" + ")" * 39)
        self.check_error("deep", head + "(let () (let () (defmac m ^1) 1))" + ")" * 39)
        self.check_error("deep", head + "(let () (letmac ((m ^(list 1))) 1))" + ")" * 39)
        # In pass 1 nothing is expanded as an expression.
        self.check_error("double", head + "(let () (let () (def x 1) (def ^x 2) x))" + ")" * 39)

    def test_scope(self):
        # Syntax that was kept in a variable of the next phase gets to where its variable is not.
        text = """(up (def kept #'0))
            (defmac get (fn (s) kept))
            (defmac put (fn (s) (join (list #'set kept #'2) s)))
            (defmac run (fn (s) (join (list kept #'2) s)))
            (let ((x 1)) (letmac ((k (do (set kept #'^x) 1))) {}))
            (let () {})"""
        self.check_values(text.format("(get)", "3").replace("^", ""), "1", "3")
        self.check_error("scope", text.format("x", "(get)"))
        self.check_error("scope", text.format("x", "(list (get))"))
        self.check_error("scope", text.format("x", "(put)"))
        self.check_error("scope", text.format("x", "(run)"))
        text = text.replace("(let ((x 1))", "(letmac ((x (rules () ((_ e) e))))")
        self.check_values(text.format("(run)", "3").replace("^", ""), "2", "3")
        self.check_error("scope", text.format("1", "(get)"))
        self.check_error("scope", text.format("1", "(list (run))"))
        self.check_error("set", text.format("1", "(put)"))
        # Bodies look at it in the first pass, but variables are only used in the second one.
        self.check_error("scope", text.format("1", "nope (run)"))
        text = text.replace("^", "").replace("(letmac ((x (rules () ((_ e) e))))", "(let ((x 1))")
        self.check_error("form", text.format("x", "(run) ^(def 1 2)"))

    def test_which_of_two_errors(self):
        self.check_error("unbound", "(list ^one two)")
        self.check_error("form", "(list ^(if 1 two))")
        self.check_error("unbound", "(let ((x ^one) (x 2)) x)")
        self.check_error("double", "(letrec ((x one) (^x 2)) x)")
        self.check_error("form", "(list 1 2 ^(fn x y))")


class TestWords(ModuleCase):
    def check_forms(self, *forms):
        for form in forms:
            self.check_error("form", f"(list ^{form})")
            self.check_error("form", f"(def x 1) (fn (y) ^{form})")
            self.check_error("form", f"(up (up ^{form}))")

    def test_quote(self):
        self.check_forms("(quote)", "(quote 1 2)", "'a", "'(1 (a))", "'...", "'(1 _)")
        self.check_values("'(1 2)", "(1 2)")
        self.check_values("(def x '" + "(" * 50 + ")" * 50 + ") 1", "1")
        self.check_error("form", "^'" + "(" * 51 + ")" * 51)
        self.check_values("(def x '(" + "1 " * 1000 + ")) (first x)", "1")
        self.check_error("form", "^'(" + "1 " * 1001 + ")")
        self.check_error("form", "^'((" + "1 " * 1001 + "))")
        rows = "(" + ("(" + "1 " * 998 + "1)") * 2 + "({}1))"
        self.check_compiles("'" + rows.format("1 " * 997))
        self.check_error("form", "^'" + rows.format("1 " * 998))

    def test_syntax(self):
        self.check_forms("(syntax)", "(syntax a b)")
        self.check_values("#'nope", "syntax")
        self.check_values("(identifier? #'a) (identifier? #'(a))", "#t", "#f")

    def test_rules(self):
        self.check_forms("(rules)")
        self.check_error("form", "(list (rules ^x))")
        self.check_error("form", "(list (rules ^(x 1)))")
        self.check_error("form", "(list (rules () ^x))")
        self.check_error("form", "(list (rules () (^() 1)))")
        self.check_error("dots", "(list (rules () ((_ ^...) 1)))")
        self.check_error("double", "(list (rules () ((_ a (b ^a)) 1)))")
        self.check_error("depth", "(list (rules () ((_ a ...) ^a)))")
        self.check_error("dots", "(list (rules () ((_ a) (a ^...))))")
        self.check_values("(rules () ((_) 1))", "procedure")

    def test_if_and_do(self):
        self.check_forms("(if 1 2)", "(if 1 2 3 4)", "(if)")
        self.check_error("form", "(list ^(do))")
        self.check_values("(if #f 1 2) (if 0 1 2) (do 1 2)", "2", "1", "1", "2")

    def test_set(self):
        self.check_forms("(set x)", "(set 1 2)", "(set x 1 2)", "(set)")
        self.check_values("(def x 1) (set x 2) x", "2", "2")
        self.check_values("(let ((x 1)) (set x (+ x 1)) x)", "2")
        self.check_error("unbound", "(set ^x 1)")
        self.check_error("phase", "(up (def x 1)) (set ^x 1)")
        self.check_error("set", "(set ^list 1)")
        self.check_error("set", "(set ^if 1)")
        self.check_error("set", "(defmac m 1) (set ^m 1)")
        self.check_error("set", "(letmac ((m 1)) (set ^m 1))")
        self.check_error("set", "(set ^list nope)")
        self.check_error("unbound", "(def x 1) (set x ^nope)")
        self.check_error("unbound", "(fn (y) (set ^x 1))")

    def test_set_of_another_level_or_module(self):
        artifacts = {"a": made_of("(def x 1) (offer x)", "a").artifact()}
        self.check_error("set", "(use a) (set ^x 2)", artifacts)
        self.check_error("set", "(up (use a) (set ^x 2))", artifacts)
        self.check_values("(up (def x 1) (set x 2) (def y (fn () x))) (defmac m (fn (s) (wrap (y) s))) (m)", "2")

    def test_fn(self):
        self.check_forms("(fn)", "(fn (x))", "(fn x x)", "(fn (x 1) x)", "(fn ((x)) x)", "(fn 1 2)")
        self.check_error("double", "(fn (x y ^x y) 1)")
        self.check_error("double", "(fn (x ^x) (if))")
        self.check_values("((fn (x y) (list y x)) 1 2)", "(2 1)")
        self.check_values("((fn () 1 2 3))", "3")
        self.check_run_error("count", "^((fn (x) x))")

    def test_let(self):
        for word in ("let", "letrec", "letmac", "recmac"):
            self.check_forms(f"({word})", f"({word} ())", f"({word} x 1)", f"({word} (x) 1)", f"({word} ((x)) 1)",
                             f"({word} ((x 1 2)) 1)", f"({word} ((1 2)) 1)", f"({word} (1) 1)")
        self.check_values("(let ((x 1)) (let ((x 2) (y x)) (list x y)))", "(2 1)")
        self.check_values("(let ((x 1)) 5 x)", "1")
        self.check_error("double", "(let ((x 1) (^x 2)) x)")
        self.check_error("unbound", "(let ((x 1) (y ^x)) y)")

    def test_letrec(self):
        self.check_values("(letrec ((f (fn (n) (if (= n 0) 7 (f (- n 1)))))) (f 5))", "7")
        self.check_error("double", "(letrec ((x 1) (^x 2)) x)")
        self.check_run_error("early", "(letrec ((x ^y) (y 1)) x)")
        self.check_values("(let ((x 1)) (letrec ((y x)) (+ x y)))", "2")

    def test_letmac(self):
        self.check_values("(letmac ((m (rules () ((_ a) (list a a))))) (m 1))", "(1 1)")
        self.check_error("double", "(letmac ((m 1) (^m 2)) 1)")
        self.check_error("unbound", "(letmac ((m ^nope) (m 2)) 1)")
        self.check_error("run fail", "^(letmac ((m (fail 1)) (m 2)) 1)")
        self.check_error("unbound", "(letmac ((m (rules () ((_) (^m))))) (m))")
        self.check_values("(list (letmac ((m 1)) 2 3))", "(3)")
        self.check_values("(letmac ((m 1)) 2 3)", "2", "3")
        # The e are expanded without variables.
        self.check_error("phase", "(let ((x 1)) (letmac ((m ^x)) 1))")

    def test_macros_are_made_without_variables(self):
        # Syntax gets from one macro for phase 1 to another one by way of a variable of phase 2.
        text = "(up (up (def kept #'1))) (defmac k0 (let ((x 1)) (letmac ((j (set kept #'^x))) 1))) "
        for use in ("(letmac ((k (letmac ((j (fn (s) kept))) (j)))) 1)", "(recmac ((k (letmac ((j (fn (s) kept))) (j)))) 1)",
                    "(defmac k (letmac ((j (fn (s) kept))) (j)))", "(let () (defmac k (letmac ((j (fn (s) kept))) (j))) 1)"):
            self.check_error("scope", text + use)

    def test_recmac(self):
        self.check_values("(recmac ((m (rules () ((_) 0) ((_ a b ...) (+ 1 (m b ...)))))) (m 5 6 7))", "3")
        self.check_error("double", "(recmac ((m nope) (^m 2)) 1)")
        self.check_error("run apply", "^(recmac ((m (1))) 1)")
        self.check_error("unbound", "(recmac ((m ^nope)) 1)")

    def test_phases(self):
        for word in ("letmac", "recmac"):
            self.check_error("phases", f"(up (up (up (list ^({word} ((m nope)) 1)))))")
            self.check_error("form", f"(up (up (up (list ^({word} ((m)) 1)))))")
            self.check_compiles(f"(up (up (list ({word} ((m 1)) 1))))")
            nested = f"({word} ((a ({word} ((b ({word} ((c {{}})) 1))) 1))) 1)"
            self.check_compiles(nested.format("1"))
            self.check_error("phases", nested.format(f"^({word} ((d 1)) 1)"))


class TestBodies(ModuleCase):
    def test_values(self):
        self.check_values("(let () (def x 1) (def y (+ x 1)) (list x y))", "(1 2)")
        self.check_values("(let () (def f (fn () (g))) (def g (fn () 8)) (f))", "8")
        self.check_values("(let () (defmac m (rules () ((_ a) (def a 4)))) (m x) x)", "4")
        self.check_values("(let () (do (def x 1)) (do (do) (do x x)))", "1")
        self.check_values("(let ((x 1)) (def y x) (let () (def x 2) (list x y)))", "(2 1)")
        self.check_run_error("early", "(let () (def x ^y) (def y 1) x)")

    def test_errors(self):
        self.check_error("order", "(let () 1 ^(def x 1) x)")
        self.check_error("order", "(let () (def y 1) (list y) (do ^(defmac x (fail 1))) x)")
        self.check_error("form", "(let () 1 ^(def x) x)")
        self.check_error("form", "(let () ^(def 1 2) 1)")
        self.check_error("form", "(let () ^(defmac x) 1)")
        self.check_error("form", "(let () ^(defmac (x) 1) 1)")
        self.check_error("double", "(let () (def x 1) (def ^x 1) x)")
        self.check_error("double", "(let () (def x 1) (defmac ^x 1) x)")
        self.check_error("run fail", "(let () (def x 1) ^(defmac x (fail 1)) x)")
        self.check_error("phases", "(up (up (up (list (let () ^(defmac m (fail 1)) 1)))))")
        self.check_error("order", "(up (up (up (list (let () 1 ^(defmac m (fail 1)))))))")
        self.check_error("unbound", "(let () (defmac m ^nope) 1)")
        self.check_error("phase", "(let () (def x 1) (defmac m ^x) 1)")

    def test_there_is_an_expression(self):
        for text in ("(list ^(let () (def x 1)))", "(list ^(fn () (do)))", "(list ^(letrec () (def x nope)))",
                     "(list ^(letmac () (do (def x 1))))", "(fn () (defmac m 1) ^(let () (do) (do (do))))"):
            self.check_error("form", text)
        self.check_error("form", "(match 1 () ^(a (do)))")
        # It is asked for behind late bindings.
        self.check_error("late", "(let () (^do) (def do 1))")

    def test_definitions_come_first(self):
        self.check_error("unbound", "(let () (def x ^one) (def y 1) two)")
        self.check_error("unbound", "(let () (def x 1) (def y ^two) three)")
        self.check_error("double", "(let () (def x one) (def ^x 1) two)")

    def test_macros_of_a_body_can_not_get_out(self):
        self.check_error("unbound", "(let () (defmac m 1) 1) ^m")
        self.check_error("unbound", "(let () (def x 1) x) (list ^x)")


if __name__ == "__main__":
    unittest.main()
